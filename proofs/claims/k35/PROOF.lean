import PyProof.Rows.All
import Wide.All
import OpenK.AllK
import Wide.FinOn
import Lean
import PyProof.EqAt
import PyProof.EqKinds
import PyProof.TupleCall
import KE.KRevIter
import PyProof.EnumMake
import PyProof.EnumFor
import PyProof.ListRange
import PyProof.Rows.Range3
import PyProof.ZipIter
import PyProof.SumWalk
import PyProof.WalksMore
import PyProof.Rows.SetFrom
import PyProof.SetRoads
import PyProof.Rows.SortRunsK
import PyProof.Rows.SortWalk
import KE.KSortTup
import PyProof.Rows.Own
import PyProof.StationsW
import OpenK.KRaise
import KE.KIsAll
import PyProof.ExcArgsOwn
import PyProof.RulesAs
import PyProof.Ns1
import PyProof.Rows.Catch
import OpenK.KOwn
import PyProof.ExcBaseAll.ValueError
import KE.KDictSum
import PyProof.AttrMiss
import PyProof.IsiH_list
import KE.KDictOf
import PyProof.DictList
import KE.KDictList
import PyProof.FactsAll.set
import PyProof.Rows.TupAdd
import KE.KDictMeth
import PyProof.DictWalks
import PyProof.TupleKey
import PyProof.DictStraight
import PyProof.IsRules
import KE.KRevSl
import PyProof.Rows.CallKwBuiltin
import PySem.Challenge.RW_sinceply_k35_when_told
open Array renaming length_toList→SN,getElem?_eq_getElem→SO,getD_eq_getD_getElem?→Tg,getElem?_toList→TZ,getElem?_eq_some_iff→T9,getElem?_eq_none→Vi,getElem_toList→Vq
open Bool renaming and_eq_true→SQ,false_ne_true→S3,false_eq_true→Tw,not_true→VL,eq_iff_iff→V3,or_eq_true→V4
open Classical renaming byContradiction→U6
open Decidable renaming byContradiction→U7
open False renaming elim→Tt
open ForInStep renaming yield→Ul
open Int renaming toNat_natCast→Uz,le_refl→U0,le_of_lt→VR,add_mul→Wj
open List renaming getElem?_set_ne→eg,map_cons→Sq,length_map→Ss,getElem?_eq_some_iff→Su,replicate→Sv,mem_cons_self→Sw,mem_cons_of_mem→Sy,mem_cons→SD,size_toArray→SG,range→SH,length_append→SJ,getElem?_eq_getElem→SK,getElem?_append_left→SM,getElem?_set_self→SR,getElem?_map→SS,nodup_cons→SV,mem_map→SW,mem_singleton→SY,map_append→S0,length_cons→S1,mem_append→S4,mem_append_right→S5,length_range→S9,getElem?_append_right→Tc,length_set→Td,mem_append_left→Tf,getElem?_eq_none→Tj,mem_range→Tp,append_nil→Tu,nodup_append→Tv,getElem?_replicate→Tz,flatten_cons→TF,filterMap_cons→TH,length_take→TJ,lookup_cons→TL,all_eq_true→TM,map_map→TN,not_mem_nil→TV,drop_eq_getElem_cons→TX,pairwise_cons→T4,filter_cons_of_neg→T6,filter_cons_of_pos→T7,getD_eq_getElem?_getD→T8,getElem?_range→Ua,mem_filter→Ub,find?_cons→Ue,replicate_succ→Ug,length_reverse→Uh,filter_sublist→Ui,filter_cons→Uj,drop_length→Up,length_replicate→Ut,length_singleton→Uv,set_append_right→Uw,any_cons→Ux,append_assoc→Uy,mem_of_getElem?→UA,pairwise_iff_getElem→UD,getElem?_take_of_lt→UG,length_drop→UH,length_nil→UM,getElem?_set→UP,ext_getElem?→UQ,length_filter_le→UU,getElem_mem→UY,cons_append→UZ,map_congr_left→U1,getElem_of_mem→U3,filter_eq_self→U4,find?_eq_none→Vb,getElem?_cons_succ→Ve,any_eq_true→Vj,getElem?_reverse→Vl,map_nil→Vn,nil_append→Vp,Sublist→Vr,flatten_append→Vu,nodup_nil→Vx,map_id→Vz,mem_filterMap→VB,zip_cons_cons→VH,all_cons→VJ,reverse_cons→VO,set_set→VT,isEmpty_nil→VW,nil_sublist→VX,of_mem_zip→V0,foldl_cons→V1,Perm→V5,take_left→V9,filter→Wl,foldl→Wu
open Nat renaming le_refl→SA,lt_of_lt_of_le→SX,zero_le→S6,ne_of_lt→S7,le_trans→S8,le_of_ble_eq_true→Th,lt_irrefl→TU,ne_of_gt→Uq,not_lt→UC,lt_succ_of_lt→UR,le_of_lt→US,lt_succ_self→UX,lt_trans→Vo,sub_self→Vs,le_succ→Vy,lt_of_le_of_lt→VD,eq_or_lt_of_le→VE,add_sub_cancel→VF,le_of_lt_succ→VP,zero_add→VS,succ_pos→VU,mod_lt→Wa,add_zero→Wg
open Option renaming isSome_map→Vg
open PyProof.Rows renaming callWith_type1→Tn,slot_tuple_getitem→TR
open PyProof.Rows.F renaming plain_set_update_loop→Vf
open PySem.Builtin.Int renaming intBits→Vt
open PySem.Builtin.List renaming listLengthHint→Ur,listExtendWith→Us,listTooLong→UJ
open PySem.Builtin.Range renaming rangeSize→Uo
open PySem.Builtin.Slice renaming slicePlaces→UB,sliceAdjust→U5
open PySem.Builtin.Tuple renaming tupleExact→UI
open PySem.Calls renaming spliced_nil→Um,callWith_builtin→UO,evalArgs_plain→Vm,spliced_cons→VC
open PySem.Data renaming cell→VA,fields→V6
open PySem.F renaming plainAttrs_list→T5,slot_list_append→U9,type_list_append→Va,slot_dict_get→Vk
open PySem.Heap renaming get?_push_of_some→Sz,lt_size→SI,get?_push_size→S2,get?_update_self→Uu,size_push→UE,SameBut→UT,get?_update_other→Vh
open PySem.Heap.SameBut renaming update→UK
open PySem.NameKind renaming cell→Wf
open PySem.Obj renaming data_mapFields→Vc,mapSeq→Vd,putSet→Wd
open PySem.PassesOwn renaming never→To
open PySem.PyData renaming depthAll→Uc,eqv→Ud,showable→UN,hasDict→UW,showableAll→VG,eqvAll→VI,canLayAll0→VN,hasDictAll→VQ
open PySem.Str renaming ofString→U8
open PySem.Value renaming ref→TQ,type→UL,str→VY,bool→Wo
open PySem.W renaming Frag→gc,nsIn→Ti,fnOf→Tq,keepIn→TY,kia_one→T3,codeIn→Vw,methodObj→VM,instObj→VZ,OpenLaw→V2,lookIn→V7,kitOne→V8
open Sum renaming inl→Te,inr→Vv
open True renaming intro→Uk
noncomputable section
set_option Elab.async false
set_option linter.all false

set_option maxRecDepth 100000
local macro_rules|`(tactic|trivial)=>`(tactic|first|exact Or.inl rfl|exact Or.inr rfl|exact Or.inr (Or.inl rfl)|exact Or.inr (Or.inr rfl)|assumption)
local macro_rules|`(tactic|and_intros)=>`(tactic|dsimp only[List.map,List.replicate,List.cons_append,List.nil_append])
namespace L2
open PySem PySem.Spec PyProof.Rows
section
variable{a b:Addr}{H:Hp}{o:HO}
noncomputable abbrev Key:=Sum Int Str
noncomputable def qz:Key->Value->Bool
 |.inl k,v=>Value.isInt k v
 |.inr x,v=>Value.isStrOf x v
noncomputable def QN(w:World):Key->Int
 |.inl k=>hashInt k
 |.inr x=>hashStr w x
theorem bu:∀{k:Key} {v:Value},qz k v=true->(∃i t,k=Te i/\v=Value.int i t)\/(∃x t,k=Vv x/\v=VY x t)
 |.inl i,v,h=>by obtain⟨t,e⟩:=Value.isInt_shape (k:=i) (v:=v) h;exact .inl ⟨i,t,rfl,e⟩
 |.inr x,v,h=>by obtain⟨t,e⟩:=Value.isStrOf_shape (x:=x) (v:=v) h;exact .inr ⟨x,t,rfl,e⟩
theorem Ao(i:Int)(t:Tok):qz (.inl i) (.int i t)=true:=by simp[qz,Value.isInt]
theorem Aq(x:Str)(t:Tok):qz (.inr x) (.str x t)=true:=by simp[qz,Value.isStrOf]
theorem J3(a b:Int):decide ((Te a:Key)=Te b)=(a == b):=by
 by_cases e:a=b
 ·subst e;simp
 ·have h:¬(Te a:Key)=Te b:=fun q=>e (Te.inj q);rw[decide_eq_false h];exact(beq_eq_false_iff_ne.mpr e).symm
theorem J4(a b:Str):decide ((Vv a:Key)=Vv b)=decide (a=b):=by
 by_cases e:a=b
 ·subst e;simp
 ·have h:¬(Vv a:Key)=Vv b:=fun q=>e (Vv.inj q);rw[decide_eq_false h,decide_eq_false e]
theorem J5(a:Int)(b:Str):decide ((Te a:Key)=Vv b)=false:=decide_eq_false (fun q=>nomatch q)
theorem J6(a:Str)(b:Int):decide ((Vv a:Key)=Te b)=false:=decide_eq_false (fun q=>nomatch q)
noncomputable def aU(prog:Program)(w:World):PySem.KeyKind prog w Key where
 is:=qz
 hash:=QN w
 inj:=fun v a b ha hb=>by
  rcases bu ha with⟨i,t,rfl,rfl⟩ | ⟨x,t,rfl,rfl⟩
  ·rcases bu hb with⟨j,u,rfl,e⟩ | ⟨y,u,rfl,e⟩
   ·injection e with e1 _;rw[e1]
   ·exact nomatch e
  ·rcases bu hb with⟨j,u,rfl,e⟩ | ⟨y,u,rfl,e⟩
   ·exact nomatch e
   ·injection e with e1 _;rw[e1]
 byValue:=fun k v h=>by rcases bu h with⟨i,t,rfl,rfl⟩ | ⟨x,t,rfl,rfl⟩<;>rfl
 pyHash:=fun hv h=>by
  rcases bu hv with⟨i,t,rfl,rfl⟩ | ⟨x,t,rfl,rfl⟩
  ·exact wpAny_pyHash_int h
  ·exact wpAny_pyHash_str h
 eqBool:=fun hu hv h=>by
  rcases bu hu with⟨i,t,rfl,rfl⟩ | ⟨x,t,rfl,rfl⟩
  ·rcases bu hv with⟨j,u,rfl,rfl⟩ | ⟨y,u,rfl,rfl⟩
   ·rw[J3]at h;exact wpAny_eqBool_int h
   ·rw[J5]at h;exact SeqAt.EqAt.int_str i t y u _ _ _ _ h
  ·rcases bu hv with⟨j,u,rfl,rfl⟩ | ⟨y,u,rfl,rfl⟩
   ·rw[J6]at h;exact SeqAt.EqAt.str_int x t j u _ _ _ _ h
   ·rw[J4]at h;exact wpAny_eqBool_str h
 «strs»:=fun k x t v h=>by
  rcases bu h with⟨i,u,rfl,e⟩ | ⟨y,u,rfl,e⟩
  ·exact nomatch e
  ·injection e with e1 _
   subst e1;cases v<;>rfl
theorem tR(prog:Program)(w:World)(i:Int)(t:Tok):(aU prog w).is (.inl i) (.int i t)=true:=Ao i t
theorem tS(prog:Program)(w:World)(x:Str)(t:Tok):(aU prog w).is (.inr x) (.str x t)=true:=Aq x t
inductive V where
 |non | bl (b:Bool) | int (i:Int) | str (x:Str) | byt (b:Array UInt8) | flt (b:UInt64) | ref (a:Addr) | ty (n:String)
 deriving DecidableEq
def RelV:V->Value->Prop
 |.non,u=>u=Value.none
 |.bl b,u=>u=Wo b
 |.int i,u=>∃t,u=Value.int i t
 |.str x,u=>∃t,u=VY x t
 |.byt b,u=>∃t,u=Value.bytes b t
 |.flt b,u=>∃t,u=Value.float b t
 |.ref a,u=>u=TQ a
 |.ty n,u=>u=UL n
noncomputable abbrev Vals:List V->List Value->Prop:=Paired RelV
theorem Vals.length{xs:List V}{us:List Value}(r:Vals xs us):xs.length=us.length:=Paired.length r
theorem Vals.get:∀{xs:List V} {us:List Value} {i:Nat} {x:V},Vals xs us->xs[i]?=some x->∃u,us[i]?=some u/\RelV x u
 |_,_,_,_,.nil,e=>by simp at e
 |_,_,0,_,.cons r _,e=>by simp at e;subst e;exact⟨_,rfl,r⟩
 |_,_,i+1,x,.cons _ t,e=>by obtain⟨u,h1,h2⟩:=Vals.get (i:=i) (x:=x) t (by simpa using e);exact⟨u,by simpa using h1,h2⟩
theorem Vals.set{x:V}{u:Value}(r:RelV x u):∀{xs:List V} {us:List Value} (i:Nat),Vals xs us->Vals (xs.set i x) (us.set i u)
 |_,_,_,.nil=>.nil
 |_,_,0,.cons _ t=>.cons r t
 |_,_,i+1,.cons q t=>.cons q (Vals.set r i t)
theorem Vals.append:∀{xs ys:List V} {us ws:List Value},Vals xs us->Vals ys ws->Vals (xs++ys) (us++ws)
 |_,_,_,_,.nil,s=>s
 |_,_,_,_,.cons r t,s=>.cons r (Vals.append t s)
theorem Vals.take:∀{xs:List V} {us:List Value} (n:Nat),Vals xs us->Vals (xs.take n) (us.take n)
 |_,_,0,_=>.nil
 |_,_,_+1,.nil=>.nil
 |_,_,n+1,.cons r t=>.cons r (Vals.take n t)
theorem Vals.drop:∀{xs:List V} {us:List Value} (n:Nat),Vals xs us->Vals (xs.drop n) (us.drop n)
 |_,_,0,r=>r
 |_,_,_+1,.nil=>.nil
 |_,_,n+1,.cons _ t=>Vals.drop n t
def jH:Option V->Option Value->Prop
 |some v,some u=>RelV v u
 |none,none=>True
 |_,_=>False
def KV{κ:Type}:List (κ×V)->List (κ×Value)->Prop:=Paired fun(p:κ×V) (q:κ×Value)=>p.1=q.1/\RelV p.2 q.2
noncomputable def kV:Key->V
 |.inl i=>.int i
 |.inr x=>.str x
inductive HO where
 |lst (xs:List V)
 |tup (xs:List V)
 |dK (kvs:List (Key×V)) | dT (kvs:List (List Key×V))
 |set (S:Int->Bool) (n:Nat)
 |ins (C dx:Addr) (fs:List (Str×V))
 |own (x:Addr)
 |xd (fs:List (Str×V))
 |met (f x:Addr)
 |rng (lo hi:Int)
 |frz (o:Obj) (u:HO)
 |tbl (ps:Array Value)
 |ext (φ:Heap->Prop)
noncomputable abbrev Hp:=Addr->Option HO
noncomputable def upd(H:Hp)(a:Addr)(o:HO):Hp:=fun b=>if b=a then some o else H b
theorem ao{a:Addr}:upd H a o a=some o:=by unfold upd;rw[if_pos rfl]
theorem aq(h:b≠a):upd H a o b=H b:=by unfold upd;rw[if_neg h]
theorem NG{o u:HO}(h:H a=some o)(h':H b=some u)(d:o≠u):a≠b:=by intro e;subst e;rw[h]at h';exact d (Option.some.inj h')
theorem aM(h:H a=some o)(h':H b=none):a≠b:=by intro e;subst e;rw[h]at h';cases h'
end
section
variable(P:Program)(w:World)
def aT(H:Hp)(h:Heap)(a:Addr):HO->Prop
 |.lst xs=>xs.length<=sizeLine/\∃(its:List Value) (n:Nat),Vals xs its/\h.get? a=some { cls:=.type "list",data:=.seq its.toArray n }
 |.tup xs=>xs.length<=sizeLine/\∃its:List Value,Vals xs its/\IsTup h a its.toArray
 |.dK kvs=>kvs.length<=sizeLine/\(a == sysModules)=false/\∃vs,KV kvs vs/\h.DictOf (aU P w) a vs
 |.dT kvs=>kvs.length<=sizeLine/\(a == sysModules)=false/\∃xs:List (List Key×Addr×Value),
   Paired (fun(p:List Key×V) (q:List Key×Addr×Value)=>p.1=q.1/\H q.2.1=some (.tup (p.1.map kV))/\RelV p.2 q.2.2) kvs xs /\
   ∃o es ep,h.get? a=some o/\o.ExactDict/\o.data=.dict es ep/\es.toList=xs.map (entryOfKey (tupleKind (aU P w)))/\(xs.map (·.1)).Nodup
 |.set S n=>h.SetOf (intKind P w) a S n
 |.ins C dx fs=>H dx=some (.own a)/\fs.length<=1000/\dx≠a/\h.get? a=some (VZ C dx) /\
   ∃mA,h.Ns1 dx mA/\(∀f,jH (fs.lookup f) (mA f))/\PySem.Within mA (fs.map (·.1))
 |.own _=>∃o,h.get? a=some o
 |.xd fs=>∃mA,h.Ns1 a mA/\∀f,jH (fs.lookup f) (mA f)
 |.rng lo hi=>∃t u v,h.get? a=some { cls:=.type "range",data:=.fields #[.int lo t,.int hi u,.int 1 v] }
 |.frz o u=>h.get? a=some o/\aT H h a u
 |.tbl ps=>h.get? a=some { cls:=.none,data:=.fields ps }
 |.met f x=>h.get? a=some (VM (.ref f) (.ref x))
 |.ext φ=>φ h/\(∃o,h.get? a=some o)/\∀h1 h2:Heap,φ h1->(∀o,h1.get? a=some o->h2.get? a=some o)->φ h2
def HOk(H:Hp)(h:Heap):Prop:=∀a o,H a=some o->aT P w H h a o
end
section
variable{P:Program}{w:World}{H H':Hp}{h h':Heap}{a:Addr}{o:HO}
theorem aT.lt(x:aT P w H h a o):a<h.objs.size:=by
 cases o with
 |lst xs=>obtain⟨_,_,_,_,e⟩:=x;exact SI e
 |tup xs=>obtain⟨_,_,_,p⟩:=x;exact p.lt
 |dK kvs=>obtain⟨_,_,_,_,o,_,_,e,_⟩:=x;exact SI e
 |dT kvs=>obtain⟨_,_,_,_,o,_,_,e,_⟩:=x;exact SI e
 |set S n=>obtain⟨o,_,_,_,e,_⟩:=x;exact SI e
 |ins C dx fs=>obtain⟨_,_,_,e,_⟩:=x;exact SI e
 |own y=>obtain⟨_,e⟩:=x;exact SI e
 |xd fs=>obtain⟨_,⟨_,_,_,e,_⟩,_⟩:=x;exact SI e
 |rng lo hi=>obtain⟨_,_,_,e⟩:=x;exact SI e
 |frz ob u=>obtain⟨e,_⟩:=x;exact SI e
 |tbl ps=>exact SI (show h.get? a=some _ from x)
 |met f y=>exact SI (show h.get? a=some _ from x)
 |ext φ=>obtain⟨_,⟨_,e⟩,_⟩:=x;exact SI e
theorem Paired.J7{α β:Type}{F G:α->β->Prop}:∀{l₁:List α} {l₂:List β},Paired F l₁ l₂->(∀a b,F a b->G a b)->Paired G l₁ l₂
 |_,_,.nil,_=>.nil
 |_,_,.cons r t,f=>.cons (f _ _ r) (Paired.J7 t f)
theorem aT.stay(x:aT P w H h a o)(k:∀b u,(b=a\/H b=some (.own a))->h.get? b=some u->h'.get? b=some u)
  (ho:∀b,H b=some (.own a)->H' b=some (.own a)) (ht:∀b xs,H b=some (.tup xs)->H' b=some (.tup xs)):aT P w H' h' a o:=by
 induction o with
 |lst xs=>obtain⟨z,its,n,r,e⟩:=x;exact⟨z,its,n,r,k _ _ (.inl rfl) e⟩
 |tup xs=>obtain⟨z,its,r,ob,e,c⟩:=x;exact⟨z,its,r,ob,k _ _ (.inl rfl) e,c⟩
 |dK kvs=>obtain⟨z,y,vs,r,ob,es,ep,e,c⟩:=x;exact⟨z,y,vs,r,ob,es,ep,k _ _ (.inl rfl) e,c⟩
 |dT kvs=>obtain⟨z,y,xs,r,ob,es,ep,e,c⟩:=x;exact⟨z,y,xs,Paired.J7 r fun p q z=>⟨z.1,ht _ _ z.2.1,z.2.2⟩,ob,es,ep,k _ _ (.inl rfl) e,c⟩
 |set S n=>obtain⟨ob,es,ep,t,e,c⟩:=x;exact⟨ob,es,ep,t,k _ _ (.inl rfl) e,c⟩
 |ins C dx fs=>obtain⟨d,z,ne,e,mA,⟨od,es,ep,e2,c⟩,r⟩:=x;exact⟨ho _ d,z,ne,k _ _ (.inl rfl) e,mA,⟨od,es,ep,k _ _ (.inr d) e2,c⟩,r⟩
 |own y=>obtain⟨ob,e⟩:=x;exact⟨ob,k _ _ (.inl rfl) e⟩
 |xd fs=>obtain⟨mA,⟨od,es,ep,e,c⟩,r⟩:=x;exact⟨mA,⟨od,es,ep,k _ _ (.inl rfl) e,c⟩,r⟩
 |rng lo hi=>obtain⟨t,u,v,e⟩:=x;exact⟨t,u,v,k _ _ (.inl rfl) e⟩
 |frz ob u ih=>obtain⟨e,q⟩:=x;exact⟨k _ _ (.inl rfl) e,ih q⟩
 |tbl ps=>have e:h.get? a=some { cls:=.none,data:=.fields ps }:=x;show h'.get? a=some { cls:=.none,data:=.fields ps };exact k a _ (.inl rfl) e
 |met f y=>have e:h.get? a=some (VM (.ref f) (.ref y)):=x;show h'.get? a=some (VM (.ref f) (.ref y));exact k a _ (.inl rfl) e
 |ext φ=>obtain⟨p,⟨o,e⟩,st⟩:=x;exact⟨st _ _ p fun o q=>k _ _ (.inl rfl) q,⟨o,k _ _ (.inl rfl) e⟩,st⟩
theorem HOk.lt(x:HOk P w H h)(e:H a=some o):a<h.objs.size:=(x a o e).lt
theorem HOk.fresh(x:HOk P w H h)(e:h.objs.size<=a):H a=none:=by
 cases q:H a with
 |none=>rfl
 |some u=>exact absurd (SX (x.lt q) e) (TU _)
theorem HOk.kept(x:HOk P w H h)(k:∀b u,h.get? b=some u->h'.get? b=some u):HOk P w H h':=fun a o e=>(x a o e).stay (fun b u _ q=>k b u q) (fun _ q=>q) fun _ _ q=>q
theorem HOk.laid(x:HOk P w H h)(k:∀b u,h.get? b=some u->h'.get? b=some u)(hp:h.objs.size<=a)(new:aT P w (upd H a o) h' a o):HOk P w (upd H a o) h':=fun b u e=>by
 have hn:=x.fresh hp;by_cases hb:b=a
 ·subst hb;rw[ao]at e;cases e;exact new
 ·rw[aq hb]at e;exact(x b u e).stay (fun c v _ q=>k c v q) (fun c q=>by rw[aq (aM q hn)];exact q) fun c xs q=>by rw[aq (aM q hn)];exact q
end
def Rd(H:Hp)(a:Addr)(u:HO):Prop:=H a=some u\/∃o,H a=some (.frz o u)
theorem Rd.ok{P:Program}{w:World}{H:Hp}{h:Heap}{a:Addr}{u:HO}(r:Rd H a u)(x:HOk P w H h):aT P w H h a u:=by
 rcases r with r | ⟨o,r⟩
 ·exact x a u r
 ·obtain⟨_,q⟩:=x a _ r;exact q
def Mut:Option HO->Prop
 |some (.lst _)=>True
 |some (.dK _)=>True
 |some (.dT _)=>True
 |some (.set _ _)=>True
 |some (.ins _ _ _)=>True
 |some (.ext _)=>True
 |_=>False
section
variable{P:Program}{w:World}{H:Hp}{h h':Heap}{x e:Addr}{o':HO}
theorem HOk.write(ok:HOk P w H h)(mu:Mut (H x))(he:e=x\/H e=some (.own x))(k:∀b u,b≠e->h.get? b=some u->h'.get? b=some u)(heo:∃u,h'.get? e=some u)
  (new:aT P w (upd H x o') h' x o'):HOk P w (upd H x o') h':=fun b u q=>by
 have NH:∀c y,H c=some (.own y)->c≠x:=fun c y r z=>by subst z;rw[r]at mu;exact mu
 have QO:∀c xs,H c=some (.tup xs)->c≠x:=fun c xs r z=>by subst z;rw[r]at mu;exact mu
 by_cases hb:b=x
 ·subst hb;rw[ao]at q;cases q;exact new
 ·rw[aq hb]at q;by_cases hbe:b=e
  ·have q':H b=some (.own x):=by
    rcases he with z | z
    ·exact absurd (hbe.trans z) hb
    ·rw[hbe];exact z
   rw[q]at q';cases q';obtain⟨v,hv⟩:=heo;exact⟨v,by rw[hbe];exact hv⟩
  ·refine(ok b u q).stay (fun c v hc r=>k c v ?_ r) (fun c r=>by rw[aq (NH c b r)];exact r) fun c xs r=>by rw[aq (QO c xs r)];exact r
   rcases hc with rfl | hc
   ·exact hbe
   ·rintro rfl;rcases he with z | z
    ·exact NH c b hc z
    ·rw[hc]at z;cases z;exact hb rfl
end
structure Un(fs ex:List Addr)(H H':Hp)(h h':Heap):Prop where
 keep:∀b o,h.get? b=some o->H b=none->b∉fs->b∉ex->h'.get? b=some o
 slot:∀b o,h.get? b=some o->H b=none->b∈fs->b∉ex->∃sl,h'.get? b=some { o with slots:=sl }
 free:∀b o,h.get? b=some o->H b=none->b∉ex->H' b=none
 there:∀b o,h.get? b=some o->b∉ex->∃o',h'.get? b=some o'
 tups:∀b xs,H b=some (.tup xs)->H' b=some (.tup xs)
 rP:∀b o u,H b=some (.frz o u)->H' b=some (.frz o u)
 tT:∀b ps,H b=some (.tbl ps)->∃more,H' b=some (.tbl (ps++more))
section
variable{fs fs' ex ex':List Addr}{H H1 H2:Hp}{h h1 h2 h':Heap}{a x e:Addr}{o:HO}
theorem Un.any(u:Un fs ex H H1 h h1){b:Addr}{ob:Obj}(q:h.get? b=some ob)(n:H b=none)(hx:b∉ex):∃sl,h1.get? b=some { ob with slots:=sl }:=by
 by_cases hb:b∈fs
 ·exact u.slot b ob q n hb hx
 ·exact⟨ob.slots,u.keep b ob q n hb hx⟩
theorem Un.kept(k:∀b u,h.get? b=some u->h'.get? b=some u):Un fs ex H H h h':=
 ⟨fun b ob q _ _ _=>k b ob q,fun b ob q _ _ _=>⟨ob.slots,k b ob q⟩,fun _ _ _ n _=>n,fun b ob q _=>⟨ob,k b ob q⟩,fun _ _ q=>q,fun _ _ _ q=>q,fun _ ps q=>⟨#[],by rw[q];simp⟩⟩
theorem Un.refl:Un fs ex H H h h:=Un.kept fun _ _ q=>q
theorem Un.laid(k:∀b u,h.get? b=some u->h'.get? b=some u)(hp:h.objs.size<=a)(hn:H a=none):Un fs ex H (upd H a o) h h' where
 keep:=fun b u q _ _ _=>k b u q
 slot:=fun b u q _ _ _=>⟨u.slots,k b u q⟩
 free:=fun b u q n _=>by rw[aq (S7 (SX (SI q) hp))];exact n
 there:=fun b u q _=>⟨u,k b u q⟩
 tups:=fun b xs q=>by rw[aq (aM q hn)];exact q
 rP:=fun b u xs q=>by rw[aq (aM q hn)];exact q
 tT:=fun b ps q=>⟨#[],by rw[aq (aM q hn),q];simp⟩
theorem Un.write(mu:Mut (H x))(he:e=x\/H e=some (.own x))(k:∀b u,b≠e->h.get? b=some u->h'.get? b=some u)(heo:∃u,h'.get? e=some u):Un fs ex H (upd H x o) h h':=by
 have hx:∀b,H b=none->b≠x:=fun b n z=>by subst z;rw[n]at mu;exact mu
 have hb:∀b,H b=none->b≠e:=fun b n z=>by
  subst z;rcases he with r | r
  ·exact hx b n r
  ·rw[n]at r;cases r
 have hm:∀b u,H b=some u->¬Mut (some u)->b≠x:=fun b u q nm z=>by subst z;rw[q]at mu;exact nm mu
 refine ⟨fun b u q n _ _=>k b u (hb b n) q,fun b u q n _ _=>⟨u.slots,k b u (hb b n) q⟩,fun b u q n _=>by rw [aq (hx b n)];exact n,fun b u q _=>?_,
  fun b xs q=>by rw[aq (hm b _ q fun z=>z)];exact q,fun b u xs q=>by rw[aq (hm b _ q fun z=>z)];exact q,fun b ps q=>⟨#[],by rw[aq (hm b _ q fun z=>z),q];simp⟩⟩
 by_cases hbe:b=e
 ·subst hbe;exact heo
 ·exact⟨u,k b u hbe q⟩
end
section
variable{b:Addr}{h:Heap}{o:Obj}{H:Hp}
noncomputable def trk(h:Heap)(H:Hp):List Addr:=(SH h.objs.size).filter fun a=>(H a).isSome
noncomputable def rQ(h:Heap)(H:Hp):Heap:=PySem.W.hideAll h (trk h H)
theorem Ar(h:Heap)(H:Hp):(rQ h H).objs.size=h.objs.size:=PySem.W.hideAll_size _ _
theorem BN(e:h.get? b=some o)(n:H b=none):(rQ h H).get? b=some o:=
 PySem.W.hideAll_get _ e fun hm=>by have q:(H b).isSome=true:=(Ub.mp hm).2;rw[n]at q;simp at q
theorem Ge(e:(rQ h H).get? b=some o):h.get? b=some o/\H b=none:=by
 have e':h.get? b=some o:=PySem.W.of_hideAll (trk h H) e;refine⟨e',?_⟩;cases q:H b with
 |none=>rfl
 |some x=>have hm:b∈trk h H:=Ub.mpr ⟨Tp.mpr (SI e'),by simp[q]⟩;have z:(rQ h H).get? b=none:=PySem.W.hideAll_none (trk h H) hm;rw[z]at e;cases e
structure Mod(K:gc)(mg:Str->Option Value)(base:Heap):Prop where
 kin:K.In base
 glob:base.Ns mainGlobals mg
 blt:∃mb,base.Ns builtinsNs mb/\∀x:Str,x ≠ "__name__" -> mb x=bootBuiltins x
 nolimit:base.NoLimit
structure Cx where
 prog:Program
 w:World
 K:gc
 mg:Str->Option Value
 base:Heap
 A:Around
 N:List Str
 s₀:Shared
 H₀:Hp
 env:Env
 outer:List Env
 stack:List Env
 ex:List Addr
 fn:Str->Bool
 calm:Bool
 pn:List (Addr×Obj)
 xe:Value->Shared->Prop
noncomputable def frs(l:List Env):List Addr:=l.filterMap (·.frame)
noncomputable abbrev Cx.fs(X:Cx):List Addr:=frs X.outer
def Vis(sc:Scope)(x:Str):Prop:=sc.names.lookup x=some .local\/sc.names.lookup x=some .cell\/sc.names.lookup x=some .free
def Loc(sc:Scope)(x:Str):Prop:=sc.names.lookup x=some .local\/sc.names.lookup x=some .cell
def Look(env:Env)(h:Heap)(m:Str->Option Value)(x:Str)(u:Value):Prop:=
 (env.kindOf x=some .local/\m x=some u)\/((env.kindOf x=some .cell\/env.kindOf x=some .free)/\∃c,env.cells.lookup x=some c/\h.IsCell c (some u))
structure Cx.Ok(X:Cx):Prop where
 mod:Mod X.K X.mg X.base
 kind:X.env.scope.kind=.function
 glob:X.env.globals=mainGlobals
 blt:X.env.builtins=builtinsNs
 above:X.s₀.heap.objs.size<=X.env.locals
 inj:∀x y c,X.env.cells.lookup x=some c->X.env.cells.lookup y=some c->x=y
 has:∀x,(X.env.kindOf x=some .cell\/X.env.kindOf x=some .free)->∃c,X.env.cells.lookup x=some c
 cab:∀x c,X.fn x=true->X.env.cells.lookup x=some c->X.s₀.heap.objs.size<=c
 hd:X.calm=true->X.A.handled=none
 frames:X.A.frames=some X.stack
 stk:X.stack=X.outer\/(X.stack=X.env::X.outer/\X.env.frame=some X.env.locals)
 exf:∀b∈X.ex,b≠X.env.locals/\∀x c,X.env.cells.lookup x=some c->c≠b
 bs:∀b o,X.base.get? b=some o->X.s₀.heap.get? b=some o/\X.H₀ b=none
 bsz:X.base.objs.size<=X.s₀.heap.objs.size
 BO:∀b o,X.base.get? b=some o->b∉X.ex
 Gf:∀b∈X.ex,b∉X.fs
 mS:X.s₀.heap.FunFrames X.base X.outer
 frf:∀b∈X.fs,X.H₀ b=none
structure Inv(X:Cx)(uW:List (Addr×Obj))(σ:List (Option V))(H:Hp)(s:Shared):Prop where
 ok:X.Ok
 os:s.os=X.s₀.os
 bare:AllBare s.gens
 base:Un X.fs X.ex X.H₀ H X.s₀.heap s.heap
 loc:∃m,s.heap.Ns X.env.locals m/\∀(i:Nat) (x:Str) (v:V),X.N[i]?=some x->σ[i]?=some (some v)->Vis X.env.scope x->∃u,RelV v u/\Look X.env s.heap m x u
 cell:∀x c,X.env.cells.lookup x=some c->∃v,s.heap.IsCell c v
 free:H X.env.locals=none
 g8:∀x c,X.env.cells.lookup x=some c->H c=none
 pin:∀p∈X.pn++uW,s.heap.get? p.1=some p.2/\H p.1=none/\p.1≠X.env.locals/\p.1∉X.fs/\∀v,p.2.data≠.cell v
 hok:HOk X.prog X.w H s.heap
 len:σ.length=X.N.length
end
section
variable{X:Cx}{uW:List (Addr×Obj)}{σ:List (Option V)}{H H':Hp}{s:Shared}{h':Heap}
section
variable{ch:List Addr}{x:Str}{u:Value}{a:Addr}{t':Nat}{i:Nat}{v:V}
theorem Cx.Ok.QS(ok:X.Ok){b:Addr}{o:Obj}(e:X.base.get? b=some o):b∉X.fs:=fun hb=>by have:=(ok.mS.mem hb).1;rw[e]at this;cases this
theorem Inv.bs(I:Inv X uW σ H s):∀b o,X.base.get? b=some o->s.heap.get? b=some o/\H b=none:=fun b o e=>⟨I.base.keep b o (I.ok.bs b o e).1 (I.ok.bs b o e).2 (I.ok.QS e) (I.ok.BO b o e),I.base.free b o (I.ok.bs b o e).1 (I.ok.bs b o e).2 (I.ok.BO b o e)⟩
theorem Inv.bk(I:Inv X uW σ H s):∀b o,X.base.get? b=some o->s.heap.get? b=some o:=fun b o e=>(I.bs b o e).1
theorem Inv.mod(I:Inv X uW σ H s):Mod X.K X.mg X.base:=I.ok.mod
theorem Inv.kIn(I:Inv X uW σ H s):X.K.In s.heap:=I.ok.mod.kin.keeps I.bk
theorem Inv.lt(I:Inv X uW σ H s):X.env.locals<s.heap.objs.size:=let ⟨_,hn,_⟩:=I.loc;hn.lt
theorem Inv.sz(I:Inv X uW σ H s):X.s₀.heap.objs.size<=s.heap.objs.size:=S8 I.ok.above (US I.lt)
theorem Inv.QT(I:Inv X uW σ H s)(h:s.heap.objs.size<=a):a∉X.fs:=fun hb=>by obtain⟨_,o,ho,_⟩:=I.ok.mS.mem hb;exact absurd (SX (SI ho) (S8 I.sz h)) (TU _)
theorem Inv.cne(I:Inv X uW σ H s):∀x c,X.env.cells.lookup x=some c->c≠X.env.locals:=fun x c e z=>by obtain⟨v,o,ho,hd⟩:=I.cell x c e;obtain⟨m,⟨o',es,ep,ho',hd',_⟩,_⟩:=I.loc;rw[z,ho']at ho;cases ho;rw[hd']at hd;cases hd
theorem Inv.mS(I:Inv X uW σ H s):s.heap.FunFrames X.base X.outer:=by
 have all:∀(l:List Env),(∀b∈frs l,b∈X.fs)->X.s₀.heap.FunFrames X.base l->s.heap.FunFrames X.base l:=by
  intro l
  induction l with
  |nil=>intro _ _;trivial
  |cons env r ih=>intro hs hl;obtain⟨hk,⟨L,o,hf,hn,ho,hd⟩,hr⟩:=hl;have hL:L∈X.fs:=hs L (by unfold frs;rw[TH,hf];exact Sw);obtain⟨sl,e⟩:=I.base.slot L o ho (I.ok.frf L hL) hL fun z=>I.ok.Gf L z hL;exact⟨hk,⟨L,_,hf,hn,e,hd⟩,ih (fun b hb=>hs b (by unfold frs;rw[TH,hf];exact Sy _ hb)) hr⟩
 exact all X.outer (fun _ hb=>hb) I.ok.mS
theorem Inv.stack(I:Inv X uW σ H s):s.heap.FunFrames X.base X.stack:=by
 rcases I.ok.stk with e | ⟨e,hf⟩
 ·rw[e];exact I.mS
 ·rw[e];obtain⟨m,hn,_⟩:=I.loc;refine .cons (by rw[I.ok.kind];decide) hf hn ?_ I.mS;exact Heap.get?_none_of_le (S8 I.ok.bsz I.ok.above)
theorem Inv.wV(I:Inv X uW σ H s):∀b∈frs X.stack,b∈X.env.locals::X.fs:=fun b hb=>by
 rcases I.ok.stk with e | ⟨e,hf⟩
 ·rw[e]at hb;exact Sy _ hb
 ·rw[e]at hb;unfold frs at hb;rw[TH,hf]at hb;exact hb
theorem Inv.yJ(I:Inv X uW σ H s):∀b∈frs X.stack,H b=none:=fun b hb=>by
 rcases SD.mp (I.wV b hb) with e | hb
 ·rw[e];exact I.free
 ·obtain⟨_,o,ho,_⟩:=I.ok.mS.mem hb;exact I.base.free b o ho (I.ok.frf b hb) fun z=>I.ok.Gf b z hb
theorem Inv.step{g':Array GenState}{t':Nat}{d':Drawn}{ch:List Addr}(I:Inv X uW σ H s)
  (hch:∀b∈ch,(b∈X.ex\/X.s₀.heap.objs.size<=b)/\b≠X.env.locals/\(∀x c,X.env.cells.lookup x=some c->c≠b)/\∀p∈X.pn++uW,p.1≠b)
  (keep:∀b o,b≠X.env.locals->b∉X.fs->b∉ch->s.heap.get? b=some o->H b=none->h'.get? b=some o)
  (slot:∀b o,b≠X.env.locals->b∈X.fs->b∉ch->s.heap.get? b=some o->H b=none->∃sl,h'.get? b=some { o with slots:=sl }) (free:∀b o,b∉ch->s.heap.get? b=some o->H b=none->H' b=none)
  (there:∀b o,b∉ch->s.heap.get? b=some o->∃o',h'.get? b=some o')
  (tups:∀b xs,H b=some (.tup xs)->H' b=some (.tup xs)) (rP:∀b o u,H b=some (.frz o u)->H' b=some (.frz o u)) (tT:∀b ps,H b=some (.tbl ps)->∃more,H' b=some (.tbl (ps++more)))
  (ns:∀m,s.heap.Ns X.env.locals m->h'.Ns X.env.locals m) (hok:HOk X.prog X.w H' h') (hg:AllBare g') :
  Inv X uW σ H' { s with heap:=h',gens:=g',drawn:=d',toks:=t' }:=by
 have neL:∀b o,X.s₀.heap.get? b=some o->b≠X.env.locals:=fun b o e=>S7 (SX (SI e) I.ok.above);have neC:∀b o,X.s₀.heap.get? b=some o->b∉X.ex->b∉ch:=fun b o e hx hb=>by
  rcases (hch b hb).1 with z | z
  ·exact hx z
  ·exact absurd (SX (SI e) z) (TU _)
 have cellK:∀x c,X.env.cells.lookup x=some c->∀v,s.heap.IsCell c v->h'.IsCell c v:=fun x c e v ⟨o,ho,hd⟩=>by
  have nch:c∉ch:=fun z=>(hch c z).2.2.1 x c e rfl;by_cases hc:c∈X.fs
  ·obtain⟨sl,q⟩:=slot c o (I.cne x c e) hc nch ho (I.g8 x c e);exact⟨_,q,hd⟩
  ·exact⟨o,keep c o (I.cne x c e) hc nch ho (I.g8 x c e),hd⟩
 refine⟨I.ok,I.os,hg,⟨fun b o e n hb hx=>?_,fun b o e n hb hx=>?_,fun b o e n hx=>?_,fun b o e hx=>?_,fun b xs e=>tups b xs (I.base.tups b xs e),fun b o xs e=>rP b o xs (I.base.rP b o xs e),fun b ps e=>?_⟩,?_,fun x c e=>?_,?_,fun x c e=>?_,fun p hp=>?_,hok,I.len⟩
 ·exact keep b o (neL b o e) hb (neC b o e hx) (I.base.keep b o e n hb hx) (I.base.free b o e n hx)
 ·obtain⟨sl,e1⟩:=I.base.slot b o e n hb hx;obtain⟨sl',e2⟩:=slot b _ (neL b o e) hb (neC b o e hx) e1 (I.base.free b o e n hx);exact⟨sl',e2⟩
 ·obtain⟨o',e1⟩:=I.base.there b o e hx;exact free b o' (neC b o e hx) e1 (I.base.free b o e n hx)
 ·obtain⟨o',e1⟩:=I.base.there b o e hx;exact there b o' (neC b o e hx) e1
 ·obtain⟨m1,e1⟩:=I.base.tT b ps e;obtain⟨m2,e2⟩:=tT b _ e1;exact⟨m1++m2,by rw[e2,Array.append_assoc]⟩
 ·obtain⟨m,hn,hl⟩:=I.loc;refine⟨m,ns m hn,fun i x v e1 e2 e3=>?_⟩;obtain⟨u,r,l⟩:=hl i x v e1 e2 e3;refine⟨u,r,?_⟩;rcases l with l | ⟨k,c,e,z⟩
  ·exact .inl l
  ·exact .inr ⟨k,c,e,cellK x c e _ z⟩
 ·obtain⟨v,z⟩:=I.cell x c e;exact⟨v,cellK x c e v z⟩
 ·obtain⟨m,⟨o,_,_,ho,_⟩,_⟩:=I.loc;exact free _ o (fun z=>(hch _ z).2.1 rfl) ho I.free
 ·obtain⟨v,o,ho,hd⟩:=I.cell x c e;exact free c o (fun z=>(hch c z).2.2.1 x c e rfl) ho (I.g8 x c e)
 ·obtain⟨e,n,ne,nf,d⟩:=I.pin p hp;have nch:p.1∉ch:=fun z=>(hch p.1 z).2.2.2 p hp rfl;exact⟨keep p.1 p.2 ne nf nch e n,free p.1 p.2 nch e n,ne,nf,d⟩
theorem Inv.un(I:Inv X uW σ H s)(u:Un X.fs [] H H' s.heap h')(hok:HOk X.prog X.w H' h'):Inv X uW σ H' { s with heap:=h',toks:=t' }:=by
 obtain⟨m,⟨o,es,ep,ho,r⟩,_⟩:=id I.loc;obtain⟨sl,hL⟩:=u.any ho I.free (by simp);exact I.step (g':=s.gens) (d':=s.drawn) (ch:=[]) (fun _ z=>nomatch z) (fun b o _ hb _ e n=>u.keep b o e n hb (by simp)) (fun b o _ hb _ e n=>u.slot b o e n hb (by simp)) (fun b o _ e n=>u.free b o e n (by simp)) (fun b o _ e=>u.there b o e (by simp)) u.tups u.rP u.tT (fun m' hm=>by obtain⟨o',es',ep',ho',r'⟩:=hm;rw[ho]at ho';cases ho';exact⟨_,es',ep',hL,r'⟩) hok I.bare
theorem Inv.call{g':Array GenState}{t':Nat}{d':Drawn}(I:Inv X uW σ H s)(u:Un (frs X.stack) ch H H' s.heap h')(hok:HOk X.prog X.w H' h')(hg:AllBare g')
  (hch:∀b∈ch,(b∈X.ex\/X.s₀.heap.objs.size<=b)/\b≠X.env.locals/\(∀x c,X.env.cells.lookup x=some c->c≠b)/\∀p∈X.pn++uW,p.1≠b) :
  Inv X uW σ H' { s with heap:=h',gens:=g',drawn:=d',toks:=t' }:=by
 obtain⟨m,⟨o,es,ep,ho,r⟩,_⟩:=id I.loc;obtain⟨sl,hL⟩:=u.any ho I.free fun z=>(hch _ z).2.1 rfl;exact I.step (ch:=ch) hch (fun b o hL hb hc e n=>u.keep b o e n (fun z=>(SD.mp (I.wV b z)).elim hL hb) hc) (fun b o _ _ hc e n=>u.any e n hc) (fun b o hc e n=>u.free b o e n hc) (fun b o hc e=>u.there b o e hc) u.tups u.rP u.tT (fun m' hm=>by obtain⟨o',es',ep',ho',r'⟩:=hm;rw[ho]at ho';cases ho';exact⟨_,es',ep',hL,r'⟩) hok hg
theorem Inv.turned{t':Nat}{it:Addr}(I:Inv X uW σ H s)(k:∀b o,b≠it->s.heap.get? b=some o->h'.get? b=some o)(hn:H it=none)(hL:it≠X.env.locals)
  (h1:it∈X.ex\/X.s₀.heap.objs.size<=it) (h2:∀x c,X.env.cells.lookup x=some c->c≠it) (h3:∀p∈X.pn++uW,p.1≠it):Inv X uW σ H { s with heap:=h',toks:=t' }:=by
 have nit:∀b u,H b=some u->b≠it:=fun b u e z=>by rw[z,hn]at e;cases e
 refine I.step (g':=s.gens) (d':=s.drawn) (ch:=[it]) (fun b hb=>?_) (fun b o _ _ hc e _=>k b o (fun z=>hc (by simp[z])) e) (fun b o _ _ hc e _=>⟨o.slots,k b o (fun z=>hc (by simp[z])) e⟩) (fun _ _ _ _ n=>n)
  (fun b o hc e=>⟨o,k b o (fun z=>hc (by simp[z])) e⟩) (fun _ _ e=>e) (fun _ _ _ e=>e) (fun b ps e=>⟨#[],by rw[e];simp⟩) (fun m hm=>?_) (fun b u e=>?_) I.bare
 ·have e:b=it:=by simpa using hb
  subst e;exact⟨h1,hL,h2,h3⟩
 ·obtain⟨o,es,ep,ho,r⟩:=hm;exact⟨o,es,ep,k _ o (Ne.symm hL) ho,r⟩
 ·refine(I.hok b u e).stay (fun c v hc q=>k c v ?_ q) (fun _ q=>q) fun _ _ q=>q;rcases hc with z | z
  ·rw[z];exact nit b u e
  ·exact nit c _ z
theorem Inv.tok(I:Inv X uW σ H s)(t:Nat):Inv X uW σ H { s with toks:=t }:=I.un (h':=s.heap) (t':=t) Un.refl I.hok
theorem Inv.kept(I:Inv X uW σ H s)(k:∀b u,s.heap.get? b=some u->h'.get? b=some u):Inv X uW σ H { s with heap:=h',toks:=t' }:=I.un (Un.kept k) (I.hok.kept k)
theorem Inv.laid{o:HO}{t':Nat}(I:Inv X uW σ H s)(k:∀b u,s.heap.get? b=some u->h'.get? b=some u)(hp:s.heap.objs.size<=a)(new:aT X.prog X.w (upd H a o) h' a o) :
  Inv X uW σ (upd H a o) { s with heap:=h',toks:=t' }:=I.un (Un.laid k hp (I.hok.fresh hp)) (I.hok.laid k hp new)
theorem Inv.write{x e:Addr}{o:HO}{t':Nat}(I:Inv X uW σ H s)(mu:Mut (H x))(he:e=x\/H e=some (.own x))(k:∀b u,b≠e->s.heap.get? b=some u->h'.get? b=some u)(heo:∃u,h'.get? e=some u)
  (new:aT X.prog X.w (upd H x o) h' x o):Inv X uW σ (upd H x o) { s with heap:=h',toks:=t' }:=I.un (Un.write mu he k heo) (I.hok.write mu he k heo new)
theorem Inv.yK{IE:List (Addr×Obj)}(I:Inv X uW σ H s)(h:∀p∈IE,s.heap.get? p.1=some p.2/\H p.1=none/\p.1≠X.env.locals/\p.1∉X.fs/\∀v,p.2.data≠.cell v):Inv X IE σ H s:=
 ⟨I.ok,I.os,I.bare,I.base,I.loc,I.cell,I.free,I.g8,fun p hp=>(S4.mp hp).elim (fun z=>I.pin p (Tf _ z)) (h p),I.hok,I.len⟩
theorem tU{N:List Str}(hN:N.Nodup){i j:Nat}(a:N[i]?=some x)(b:N[j]?=some x):i=j:=by obtain⟨h1,e1⟩:=Su.mp a;obtain⟨h2,e2⟩:=Su.mp b;exact(List.getElem_inj hN).mp (e1.trans e2.symm)
theorem qA{M:Model}{A:Around}{E:Value->Shared->Prop}{Q:Unit->Shared->Prop}(I:Inv X uW σ H s)(hN:X.N.Nodup)(hi:X.N[i]?=some x)(hx:Loc X.env.scope x)(r:RelV v u)
  (h:∀s',Inv X uW (σ.set i (some v)) H s'->(∃a,UT a s.heap s'.heap/\(a=X.env.locals\/X.env.cells.lookup x=some a))->Q () s') (hf:X.fn x=true\/X.env.scope.names.lookup x=some .local:=by trivial):wpAny M A (storeName X.env x u) Q E s:=by
 obtain⟨m,hn,hl⟩:=id I.loc;have hcls:(X.env.scope.kind == .class||(X.env.scope.kind == .module&&X.env.locals != X.env.globals))=false:=by rw[I.ok.kind];rfl
 have hiσ:i<σ.length:=by rw[I.len];exact(Su.mp hi).1
 have cne:=I.cne;have tracked:∀{a:Addr} {h':Heap},(∃o,s.heap.get? a=some o/\H a=none)->UT a s.heap h'->HOk X.prog X.w H h':=fun {a h'} ha hs b ob e=>by
  obtain⟨_,_,hfree⟩:=ha;refine(I.hok b ob e).stay (fun c w' hc q=>(hs.2 c ?_).trans q) (fun _ q=>q) fun _ _ q=>q;rintro rfl;rcases hc with rfl | hc
  ·rw[hfree]at e;cases e
  ·rw[hfree]at hc;cases hc
 rcases hx with hk | hk
 ·refine wpAny_storeName_local hk hn (fun h' hn' hs=>?_) hcls;obtain⟨oL,_,_,hoL,_⟩:=id hn;refine h _ ⟨I.ok,I.os,I.bare,⟨fun b o e n hb hx=>?_,fun b o e n hb hx=>?_,I.base.free,fun b o e hx=>?_,I.base.tups,I.base.rP,I.base.tT⟩,⟨_,hn',fun j y v' e1 e2 e3=>?_⟩,fun y c e=>?_,I.free,I.g8,fun p hp=>?_,tracked ⟨oL,hoL,I.free⟩ hs,by simpa using I.len⟩ ⟨_,hs,.inl rfl⟩
  ·exact(hs.2 b (S7 (SX (SI e) I.ok.above))).trans (I.base.keep b o e n hb hx)
  ·obtain⟨sl,e1⟩:=I.base.slot b o e n hb hx;exact⟨sl,(hs.2 b (S7 (SX (SI e) I.ok.above))).trans e1⟩
  ·obtain⟨o',e1⟩:=I.base.there b o e hx;exact⟨o',(hs.2 b (S7 (SX (SI e) I.ok.above))).trans e1⟩
  ·by_cases hj:j=i
   ·subst hj;rw[hi]at e1;cases e1;rw[SR hiσ]at e2;cases e2;exact⟨u,r,.inl ⟨hk,by simp⟩⟩
   ·rw[eg (Ne.symm hj)]at e2;obtain⟨u',r',q⟩:=hl j y v' e1 e2 e3;refine⟨u',r',?_⟩;rcases q with⟨k,e⟩ | ⟨k,c,e,z⟩
    ·refine .inl ⟨k,?_⟩;have:y≠x:=fun e=>hj (tU hN e1 (e▸hi));simp[this,e]
    ·exact .inr ⟨k,c,e,z.sameBut hs (cne y c e)⟩
  ·obtain⟨w',z⟩:=I.cell y c e;exact⟨w',z.sameBut hs (cne y c e)⟩
  ·obtain⟨e,n,ne,nf,d⟩:=I.pin p hp;exact⟨(hs.2 p.1 ne).trans e,n,ne,nf,d⟩
 ·have hfn:X.fn x=true:=by
   rcases hf with z | z
   ·exact z
   ·rw[z]at hk;cases hk
  obtain⟨c,hc⟩:=I.ok.has x (.inl hk);obtain⟨w',z⟩:=I.cell x c hc;refine wpAny_storeName_cell I.ok.kind hk hc z (fun h' hc' hs=>?_);obtain⟨oc,hoc,QU⟩:=id z;refine h { s with heap:=h' } ⟨I.ok,I.os,I.bare,⟨fun b o e n hb hx=>?_,fun b o e n hb hx=>?_,I.base.free,fun b o e hx=>?_,I.base.tups,I.base.rP,I.base.tT⟩,⟨m,hn.sameBut hs (Ne.symm (cne x c hc)),fun j y v' e1 e2 e3=>?_⟩,fun y c' e=>?_,I.free,I.g8,fun p hp=>?_,tracked ⟨oc,hoc,I.g8 x c hc⟩ hs,by simpa using I.len⟩ ⟨c,hs,.inr hc⟩
  ·exact(hs.2 b (S7 (SX (SI e) (I.ok.cab x c hfn hc)))).trans (I.base.keep b o e n hb hx)
  ·obtain⟨sl,e1⟩:=I.base.slot b o e n hb hx;exact⟨sl,(hs.2 b (S7 (SX (SI e) (I.ok.cab x c hfn hc)))).trans e1⟩
  ·obtain⟨o',e1⟩:=I.base.there b o e hx;exact⟨o',(hs.2 b (S7 (SX (SI e) (I.ok.cab x c hfn hc)))).trans e1⟩
  ·by_cases hj:j=i
   ·subst hj;rw[hi]at e1;cases e1;rw[SR hiσ]at e2;cases e2;exact⟨u,r,.inr ⟨.inl hk,c,hc,hc'⟩⟩
   ·rw[eg (Ne.symm hj)]at e2;obtain⟨u',r',q⟩:=hl j y v' e1 e2 e3;refine⟨u',r',?_⟩;rcases q with q | ⟨k,c',e,z'⟩
    ·exact .inl q
    ·refine .inr ⟨k,c',e,z'.sameBut hs ?_⟩;rintro rfl;exact hj (tU hN e1 (I.ok.inj _ _ _ e hc▸hi))
  ·by_cases hcc:c'=c
   ·subst hcc;exact⟨_,hc'⟩
   ·obtain⟨w2,z2⟩:=I.cell y c' e;exact⟨w2,z2.sameBut hs hcc⟩
  ·obtain⟨e,n,ne,nf,d⟩:=I.pin p hp;refine⟨(hs.2 p.1 ?_).trans e,n,ne,nf,d⟩;intro q;rw[q,hoc]at e;have q':oc=p.2:=Option.some.inj e;exact d w' (by rw[<- q'];exact QU)
theorem tW{M:Model}{A:Around}{E:Value->Shared->Prop}{Q:Unit->Shared->Prop}(I:Inv X uW σ H s)(hN:X.N.Nodup)(hi:X.N[i]?=some x)(hx:Loc X.env.scope x)(r:RelV v u)
  (h:∀s',Inv X uW (σ.set i (some v)) H s'->Q () s') (hf:X.fn x=true\/X.env.scope.names.lookup x=some .local:=by trivial):wpAny M A (storeName X.env x u) Q E s:=
 qA I hN hi hx r (fun s' I' _=>h s' I') hf
theorem Inv.NI{s':Shared}(I:Inv X uW σ H s)(ho:s'.os=s.os)(u:Un (frs X.stack) ch H H' s.heap s'.heap)(hok:HOk X.prog X.w H' s'.heap)(hg:AllBare s'.gens)
  (hch:∀b∈ch,(b∈X.ex\/X.s₀.heap.objs.size<=b)/\b≠X.env.locals/\(∀x c,X.env.cells.lookup x=some c->c≠b)/\∀p∈X.pn++uW,p.1≠b):Inv X uW σ H' s':=by
 obtain⟨h',g',d',t',o'⟩:=s';have e:o'=s.os:=ho;subst e;exact I.call (g':=g') (t':=t') (d':=d') u hok hg hch
end
end
noncomputable abbrev XK:=Value->Option Addr->Hp->Prop
noncomputable abbrev St:=List (Option V)
noncomputable abbrev VK:=V->Hp->Prop
noncomputable abbrev TE:=St->Hp->VK->Prop
noncomputable abbrev TT:=St->Hp->(Bool->Hp->Prop)->Prop
noncomputable abbrev TA:=St->Hp->(List V->Hp->Prop)->Prop
structure Ends where
 nx:St->Hp->Prop
 rt:VK
 bk:St->Hp->Prop:=fun _ _=>False
 ct:St->Hp->Prop:=fun _ _=>False
noncomputable abbrev TS:=Ends->St->Hp->Prop
def EP(X:Cx)(uW:List (Addr×Obj))(σ:St)(Q:VK)(u:Value)(s':Shared):Prop:=∃v H',Inv X uW σ H' s'/\RelV v u/\Q v H'
def TP(X:Cx)(uW:List (Addr×Obj))(σ:St)(Q:Bool->Hp->Prop)(b:Bool)(s':Shared):Prop:=∃H',Inv X uW σ H' s'/\Q b H'
def AP(X:Cx)(uW:List (Addr×Obj))(σ:St)(Q:List V->Hp->Prop)(us:List Value)(s':Shared):Prop:=∃vs H',Inv X uW σ H' s'/\Vals vs us/\Q vs H'
def SP(X:Cx)(uW:List (Addr×Obj))(D:Ends)(f:Flow)(s':Shared):Prop:=
 match f with
 |.next=>∃σ' H',Inv X uW σ' H' s'/\D.nx σ' H'
 |.brk=>∃σ' H',Inv X uW σ' H' s'/\D.bk σ' H'
 |.cont=>∃σ' H',Inv X uW σ' H' s'/\D.ct σ' H'
 |.ret u=>∃v σ' H',Inv X uW σ' H' s'/\RelV v u/\D.rt v H'
def PE(X:Cx)(e:Expr)(t:TE):Prop:=
 ∀(uW:List (Addr×Obj)) (s:Shared) (σ:St) (H:Hp) (Q:VK),Inv X uW σ H s->t σ H Q->wpAny (model X.prog X.w) X.A (eval e X.env) (EP X uW σ Q) X.xe s
def PT(X:Cx)(e:Expr)(t:TT):Prop:=
 ∀(uW:List (Addr×Obj)) (s:Shared) (σ:St) (H:Hp) (Q:Bool->Hp->Prop),Inv X uW σ H s->t σ H Q->wpAny (model X.prog X.w) X.A (isTrue e X.env (eval e X.env)) (TP X uW σ Q) X.xe s
def PW(X:Cx)(e:Expr)(t:TT):Prop:=
 ∀(whole:Sem Value) (uW:List (Addr×Obj)) (s:Shared) (σ:St) (H:Hp) (Q:Bool->Hp->Prop),Inv X uW σ H s->t σ H Q->wpAny (model X.prog X.w) X.A (isTrue e X.env whole) (TP X uW σ Q) X.xe s
theorem PW.pt{X:Cx}{e:Expr}{t:TT}(h:PW X e t):PT X e t:=h _
def PA(X:Cx)(es:List Expr)(t:TA):Prop:=
 ∀(pos:Pos) (uW:List (Addr×Obj)) (s:Shared) (σ:St) (H:Hp) (Q:List V->Hp->Prop),Inv X uW σ H s->t σ H Q->wpAny (model X.prog X.w) X.A (spliced (backTo pos (starEach es X.env))) (AP X uW σ Q) X.xe s
def PS(X:Cx)(st:Stmt)(t:TS):Prop:=
 ∀(uW:List (Addr×Obj)) (s:Shared) (σ:St) (H:Hp) (D:Ends),Inv X uW σ H s->t D σ H->wpAny (model X.prog X.w) X.A (exec st X.env) (SP X uW D) X.xe s
def PSs(X:Cx)(st:List Stmt)(t:TS):Prop:=
 ∀(uW:List (Addr×Obj)) (s:Shared) (σ:St) (H:Hp) (D:Ends),Inv X uW σ H s->t D σ H->wpAny (model X.prog X.w) X.A (execs st X.env) (SP X uW D) X.xe s
theorem thn{α:Type}{t:Sem α}{Q Q':α->Shared->Prop}{M:Model}{A:Around}{E:Value->Shared->Prop}{s:Shared}(h:wpAny M A t Q E s)(hQ:∀a s,Q a s->Q' a s):wpAny M A t Q' E s:=wpAny_mono h hQ fun _ _ x=>x
section
variable{X:Cx}
section
variable{Q:Value->Shared->Prop}{uW:List (Addr×Obj)}{u:Value}{x:Str}{s:Shared}{t:TE}{σ:St}{H:Hp}{v:V}
def fT(i:Nat):TE:=fun σ H Q=>∃v,σ[i]?=some (some v)/\Q v H
def tC(v:V):TE:=fun _ H Q=>Q v H
theorem bL{i:Nat}{pos:Pos}(hN:X.N[i]?=some x)(hv:Vis X.env.scope x)(hd:(x == ("__debug__" : Str))=false:=by decide)(PJ:(x == ("__classdict__" : Str))=false:=by decide):PE X (.Name x pos) (fT i):=by
 intro uW s σ H Q I h;obtain⟨v,e,h⟩:=h;obtain⟨m,hn,hl⟩:=I.loc;obtain⟨u,r,l⟩:=hl i x v hN e hv;have PF:EP X uW σ Q u s:=⟨v,H,I,r,h⟩
 rcases l with⟨hk,hm⟩ | ⟨hk,c,hc,hcell⟩
 ·exact wpAny_Name (wpAny_loadName_local I.ok.kind hk hn hm PF) hd
 ·rcases hk with hk | hk
  ·exact wpAny_Name (wpAny_loadName_cell I.ok.kind hk hc hcell PF) hd
  ·exact wpAny_Name (wpAny_loadName_free I.ok.kind hk hc hcell PF PJ) hd
theorem mT{i j pos}:PE X (.Constant (.int i) j pos) (tC (.int i)):=fun _ _ _ H _ I h=>wpAny_Constant_int ⟨.int i,H,I.tok _,⟨_,rfl⟩,h⟩
theorem NJ{b j pos}:PE X (.Constant (.bool b) j pos) (tC (.bl b)):=fun _ _ _ H _ I h=>Constant_bool ⟨.bl b,H,I,rfl,h⟩
theorem J8{j pos}:PE X (.Constant .none j pos) (tC .non):=fun _ _ _ H _ I h=>Constant_none ⟨.non,H,I,rfl,h⟩
theorem J9{x j pos}:PE X (.Constant (.str x) j pos) (tC (.str x)):=fun _ _ _ H _ I h=>Calls.Constant_str ⟨.str x,H,I.tok _,⟨_,rfl⟩,h⟩
def Gl(X:Cx)(x:Str):Prop:=X.env.kindOf x=some .globalImplicit
theorem yL{E:Value->Shared->Prop}{pos:Pos}(I:Inv X uW σ H s)(hg:Gl X x)(hm:X.mg x=some u)(h:Q u s)
  (hd:(x == ("__debug__" : Str))=false:=by decide):wpAny (model X.prog X.w) X.A (eval (.Name x pos) X.env) Q E s:=
 Calls.Name_function_global I.ok.kind hg (Calls.loadGlobal_global (by rw[I.ok.glob];exact I.mod.glob.keeps I.bk) hm h) hd
theorem cY{E:Value->Shared->Prop}{pos:Pos}(I:Inv X uW σ H s)(hg:Gl X x)(hm:X.mg x=none)(hv:bootBuiltins x=some u)(h:Q u s)
  (hn:x ≠ "__name__" := by decide) (hd:(x == ("__debug__" : Str))=false:=by decide):wpAny (model X.prog X.w) X.A (eval (.Name x pos) X.env) Q E s:=by
 obtain⟨mb,h1,h2⟩:=I.mod.blt;exact Calls.Name_function_global I.ok.kind hg (Calls.loadGlobal_builtin (by rw[I.ok.glob];exact I.mod.glob.keeps I.bk) hm (by rw[I.ok.blt];exact h1.keeps I.bk) ((h2 x hn).trans hv) h) hd
theorem Gg{pos:Pos}(hg:Gl X x)(hm:X.mg x=some u)(r:RelV v u)(hd:(x == ("__debug__" : Str))=false:=by decide):PE X (.Name x pos) (tC v):=
 fun _ _ _ H _ I h=>yL I hg hm ⟨v,H,I,r,h⟩ hd
theorem Gh{pos:Pos}(hg:Gl X x)(hm:X.mg x=none)(hv:bootBuiltins x=some u)(r:RelV v u)(hn:x ≠ "__name__" := by decide)(hd:(x == ("__debug__" : Str))=false:=by decide):PE X (.Name x pos) (tC v):=
 fun _ _ _ H _ I h=>cY I hg hm hv ⟨v,H,I,r,h⟩ hn hd
variable{a b:Expr}{ta tb:TE}{pos:Pos}
def PC(X:Cx)(op:CmpOp)(a b:Expr)(t:TE):Prop:=
 ∀(uW:List (Addr×Obj)) (s:Shared) (σ:St) (H:Hp) (Q:VK),Inv X uW σ H s->t σ H Q ->
  wpAny (model X.prog X.w) X.A (eval a X.env) (fun v s₁=>wpAny (model X.prog X.w) X.A (eval b X.env) (fun u s₂=>wpAny (model X.prog X.w) X.A (compareOp op v u) (EP X uW σ Q) X.xe s₂) X.xe s₁) X.xe s
def tB(t:TE):TT:=fun σ H Q=>t σ H fun x H1=>∃c,x=.bl c/\Q c H1
theorem BP{op:CmpOp}(h:PC X op a b t)(h1:behindInMarks op b=false:=by first | exact NK _ (by decide) (by decide) | rfl):PT X (.Compare a [op] [b] pos) (tB t):=by intro uW s σ H Q I hw;refine wpAny_isTrue_Compare1 (thn (h uW s σ H _ I hw) fun v s1 h1=>thn h1 fun u s2 h2=>thn h2 fun c s3 ⟨x,H1,I1,r1,q1⟩=>?_) h1;obtain⟨d,rfl,q⟩:=q1;cases r1;exact wpAny_truthy_bool ⟨H1,I1,q⟩
theorem J_{e:Expr}(h:PE X e t)(he:∀whole,isTrue e X.env whole=(do let v <- whole;standAt e.pos;holding [v] (truthy v)):=by intro _;rfl):PT X e (tB t):=by intro uW s σ H Q I hw;refine isTrue_plain (thn (h uW s σ H _ I hw) fun v s1 ⟨x,H1,I1,r1,q1⟩=>?_) (he _);obtain⟨d,rfl,q⟩:=q1;cases r1;exact wpAny_truthy_bool ⟨H1,I1,q⟩
variable{tA tB':TT}{uX:List Expr}
def mU(t u:TT):TT:=fun σ H Q=>t σ H fun c H1=>if c=true then u σ H1 Q else Q false H1
def tOr(t u:TT):TT:=fun σ H Q=>t σ H fun c H1=>if c=true then Q true H1 else u σ H1 Q
def b8(t:TT):TT:=fun σ H Q=>t σ H fun c H1=>Q (!c) H1
theorem pw_and1(ha:PT X a tA):PW X (.BoolOp .And [a] pos) tA:=by
 intro wh uW s σ H Q I h;refine isTrue_and (thn (ha uW s σ H Q I h) fun c s1 e=>?_);cases c with
 |true=>exact isTrue_and_nil e
 |false=>exact e
theorem pw_or1(ha:PT X a tA):PW X (.BoolOp .Or [a] pos) tA:=by
 intro wh uW s σ H Q I h;refine isTrue_or (thn (ha uW s σ H Q I h) fun c s1 e=>?_);cases c with
 |false=>exact isTrue_or_nil e
 |true=>exact e
theorem pw_and(ha:PT X a tA)(hb:PW X (.BoolOp .And (b::uX) pos) tB'):PW X (.BoolOp .And (a::b::uX) pos) (mU tA tB'):=by
 intro wh uW s σ H Q I h;refine isTrue_and (thn (ha uW s σ H _ I h) fun c s1 ⟨H1,I1,q1⟩=>?_);cases c with
 |true=>exact hb wh uW s1 σ H1 Q I1 q1
 |false=>exact⟨H1,I1,q1⟩
theorem pw_or(ha:PT X a tA)(hb:PW X (.BoolOp .Or (b::uX) pos) tB'):PW X (.BoolOp .Or (a::b::uX) pos) (tOr tA tB'):=by
 intro wh uW s σ H Q I h;refine isTrue_or (thn (ha uW s σ H _ I h) fun c s1 ⟨H1,I1,q1⟩=>?_);cases c with
 |true=>exact⟨H1,I1,q1⟩
 |false=>exact hb wh uW s1 σ H1 Q I1 q1
theorem Ka(ha:PT X a tA):PT X (.UnaryOp .Not a pos) (b8 tA):=by intro uW s σ H Q I h;exact isTrue_not (ha uW s σ H (fun c H1=>Q (!c) H1) I h)
def IF(ta tb:TE):TE:=fun σ H Q=>ta σ H fun x H1=>∃c,x=.bl c/\if c=true then tb σ H1 Q else Q (.bl false) H1
def IG(ta:TE):TE:=fun σ H Q=>ta σ H fun x H1=>∃c,x=.bl c/\Q (.bl (!c)) H1
theorem Kc{op}(h:PE X a t):PE X (.BoolOp op [a] pos) t:=fun uW s σ H Q I hw=>BoolOp_one (h uW s σ H Q I hw)
theorem Kd(ha:PE X a ta)(hb:PE X (.BoolOp .And (b::uX) pos) tb):PE X (.BoolOp .And (a::b::uX) pos) (IF ta tb):=by
 intro uW s σ H Q I h;refine BoolOp_and (thn (ha uW s σ H _ I h) fun v s1 ⟨x,H1,I1,r1,q1⟩=>?_);obtain⟨c,rfl,q1⟩:=q1;cases r1;refine wpAny_truthy_bool ?_;cases c with
 |true=>exact hb uW s1 σ H1 Q I1 q1
 |false=>exact⟨.bl false,H1,I1,rfl,q1⟩
theorem Ke(ha:PE X a ta):PE X (.UnaryOp .Not a pos) (IG ta):=by intro uW s σ H Q I h;refine UnaryOp_ (thn (ha uW s σ H _ I h) fun v s1 ⟨x,H1,I1,r1,q1⟩=>?_);obtain⟨c,rfl,q1⟩:=q1;cases r1;exact not_of (wpAny_truthy_bool ⟨.bl (!c),H1,I1,rfl,q1⟩)
def tIf(t:TT)(ta tb:TE):TE:=fun σ H Q=>t σ H fun c H1=>if c=true then ta σ H1 Q else tb σ H1 Q
theorem BQ{c:Expr}(hc:PT X c tA)(ha:PE X a ta)(hb:PE X b tb):PE X (.IfExp c a b pos) (tIf tA ta tb):=by
 intro uW s σ H Q I h;refine wpAny_IfExp (thn (hc uW s σ H _ I h) fun d s1 ⟨H1,I1,q1⟩=>?_);cases d with
 |true=>exact ha uW s1 σ H1 Q I1 q1
 |false=>exact hb uW s1 σ H1 Q I1 q1
end
end
def SqL(K:gc)(H:Hp)(a:Addr)(xs:List V):Prop:=
 Rd H a (.lst xs) \/
  ∃(o:Obj) (its:Array Value) (n:Nat),K.lookup a=some o/\o.cls=.type "list" /\ o.dict=none/\o.data=.seq its n/\its.size<=sizeLine/\Vals xs its.toList
def SqT(K:gc)(H:Hp)(a:Addr)(xs:List V):Prop:=
 Rd H a (.tup xs) \/
  ∃(o:Obj) (its:Array Value) (n:Nat),K.lookup a=some o/\o.cls=.type "tuple" /\ o.data=.seq its n/\its.size<=sizeLine/\Vals xs its.toList
noncomputable def QV:Value->Option V
 |.none=>some .non
 |.bool b=>some (.bl b)
 |.int i _=>some (.int i)
 |.str x _=>some (.str x)
 |.bytes b _=>some (.byt b)
 |.float b _=>some (.flt b)
 |.ref a=>some (.ref a)
 |.type n=>some (.ty n)
 |_=>none
theorem RelV.abs{x:V}{u:Value}(r:RelV x u):QV u=some x:=by
 cases x with
 |non=>cases r;rfl
 |bl _=>cases r;rfl
 |int _=>obtain⟨t,rfl⟩:=r;rfl
 |str _=>obtain⟨t,rfl⟩:=r;rfl
 |byt _=>obtain⟨t,rfl⟩:=r;rfl
 |flt _=>obtain⟨t,rfl⟩:=r;rfl
 |ref _=>cases r;rfl
 |ty _=>cases r;rfl
theorem RelV.inj{x y:V}{u:Value}(r:RelV x u)(q:RelV y u):x=y:=Option.some.inj (r.abs.symm.trans q.abs)
theorem Vals.inj:∀{xs ys:List V} {us:List Value},Vals xs us->Vals ys us->xs=ys
 |_,_,_,.nil,.nil=>rfl
 |_,_,_,.cons r t,.cons r' t'=>by rw[r.inj r',Vals.inj t t']
section
variable{X:Cx}{uW:List (Addr×Obj)}{σ:St}{H:Hp}{s:Shared}{a:Addr}{xs ys:List V}
theorem SqT.of{K:gc}(h:H a=some (.tup xs)):SqT K H a xs:=.inl (.inl h)
theorem Inv.list(I:Inv X uW σ H s)(h:SqL X.K H a xs):∃its:List Value,Vals xs its/\PlainL s.heap a its.toArray/\xs.length<=sizeLine:=by
 rcases h with h | ⟨o,its,n,hk,hc,hd,hs,hz,r⟩
 ·obtain⟨z,its,n,r,e⟩:=h.ok I.hok;exact⟨its,r,⟨_,n,e,rfl,rfl,rfl⟩,z⟩
 ·refine⟨its.toList,r,⟨o,n,I.kIn a o hk,hc,hd,by simpa using hs⟩,?_⟩;have e:=r.length;simp only[SN]at e;omega
theorem Inv.tuple(I:Inv X uW σ H s)(h:SqT X.K H a xs):∃its:List Value,Vals xs its/\IsTup s.heap a its.toArray/\xs.length<=sizeLine:=by
 rcases h with h | ⟨o,its,n,hk,hc,hs,hz,r⟩
 ·obtain⟨z,its,r,p⟩:=h.ok I.hok;exact⟨its,r,p,z⟩
 ·refine⟨its.toList,r,⟨o,I.kIn a o hk,hc,n,by simpa using hs⟩,?_⟩;have e:=r.length;simp only[SN]at e;omega
theorem Inv.fY(I:Inv X uW σ H s)(h:SqL X.K H a xs)(h':SqL X.K H a ys):xs=ys:=by
 obtain⟨its,r,⟨o,n,e,_,_,d⟩,_⟩:=I.list h;obtain⟨its',r',⟨o',n',e',_,_,d'⟩,_⟩:=I.list h';rw[e]at e';cases e';rw[d]at d';injection d' with d1 _
 have:its=its':=by simpa using congrArg Array.toList d1
 subst this;exact r.inj r'
theorem Inv.As(I:Inv X uW σ H s)(h:SqT X.K H a xs)(h':SqT X.K H a ys):xs=ys:=by
 obtain⟨its,r,⟨o,e,_,n,d⟩,_⟩:=I.tuple h;obtain⟨its',r',⟨o',e',_,n',d'⟩,_⟩:=I.tuple h';rw[e]at e';cases e';rw[d]at d';injection d' with d1 _
 have:its=its':=by simpa using congrArg Array.toList d1
 subst this;exact r.inj r'
end
noncomputable abbrev Cx.qk(X:Cx)(E:Value->Shared->Prop):Cx:={ X with xe:=E }
noncomputable abbrev Cx.nox(X:Cx):Cx:=X.qk fun _ _=>False
theorem Cx.Ok.qk{X:Cx}(ok:X.Ok)(E:Value->Shared->Prop):(X.qk E).Ok:=
 ⟨ok.mod,ok.kind,ok.glob,ok.blt,ok.above,ok.inj,ok.has,ok.cab,ok.hd,ok.frames,ok.stk,ok.exf,ok.bs,ok.bsz,ok.BO,ok.Gf,ok.mS,ok.frf⟩
theorem Cx.Ok.fZ{X:Cx}{E:Value->Shared->Prop}(ok:(X.qk E).Ok):X.Ok:=
 ⟨ok.mod,ok.kind,ok.glob,ok.blt,ok.above,ok.inj,ok.has,ok.cab,ok.hd,ok.frames,ok.stk,ok.exf,ok.bs,ok.bsz,ok.BO,ok.Gf,ok.mS,ok.frf⟩
section
variable{X:Cx}{uW:List (Addr×Obj)}{σ:St}{H:Hp}{s:Shared}{E:Value->Shared->Prop}
theorem Inv.qk(I:Inv X uW σ H s)(E:Value->Shared->Prop):Inv (X.qk E) uW σ H s:=⟨I.ok.qk E,I.os,I.bare,I.base,I.loc,I.cell,I.free,I.g8,I.pin,I.hok,I.len⟩
theorem Inv.fZ(I:Inv (X.qk E) uW σ H s):Inv X uW σ H s:=⟨I.ok.fZ,I.os,I.bare,I.base,I.loc,I.cell,I.free,I.g8,I.pin,I.hok,I.len⟩
theorem SP.fZ{D:Ends}{f:Flow}{s':Shared}(h:SP (X.qk E) uW D f s'):SP X uW D f s':=by
 cases f with
 |next=>obtain⟨σ',H',I,q⟩:=h;exact⟨σ',H',I.fZ,q⟩
 |brk=>obtain⟨σ',H',I,q⟩:=h;exact⟨σ',H',I.fZ,q⟩
 |cont=>obtain⟨σ',H',I,q⟩:=h;exact⟨σ',H',I.fZ,q⟩
 |ret u=>obtain⟨v,σ',H',I,r,q⟩:=h;exact⟨v,σ',H',I.fZ,r,q⟩
theorem PSs.nox{st:List Stmt}{t:TS}(h:PSs X.nox st t):PSs X st t:=fun uW s σ H D I hw=>wpAny_mono (h uW s σ H D (I.qk _) hw) (fun _ _ q=>q.fZ) fun _ _ z=>Tt z
end
section
variable{X:Cx}{st:Stmt}{uX:List Stmt}{t u:TS}{e:Expr}{te:TE}{pos:Pos}
def qB:TS:=fun D σ H=>D.nx σ H
def fU(t u:TS):TS:=fun D σ H=>t { D with nx:=u D } σ H
theorem jI:PSs X [] qB:=fun _ _ σ H _ I h=>wpAny_execs_nil ⟨σ,H,I,h⟩
theorem aY(h1:PS X st t)(h2:PSs X uX u):PSs X (st::uX) (fU t u):=by
 intro uW s σ H D I h;refine wpAny_execs_cons (thn (h1 uW s σ H { D with nx:=u D } I h) fun f s1 q=>?_);cases f with
 |next=>obtain⟨σ',H',I',q⟩:=q;exact h2 uW s1 σ' H' D I' q
 |ret v=>exact q
 |brk=>exact q
 |cont=>exact q
theorem cQ(h1:PS X st t):PSs X [st] t:=by
 intro uW s σ H D I h;refine wpAny_execs_cons (thn (h1 uW s σ H D I h) fun f s1 q=>?_);cases f with
 |next=>exact wpAny_execs_nil q
 |ret v=>exact q
 |brk=>exact q
 |cont=>exact q
theorem Inv.quiet{uW:List (Addr×Obj)}{σ:St}{H:Hp}{s:Shared}(I:Inv X uW σ H s):interactive X.env=false:=by simp[interactive,I.ok.kind]
def jJ(te:TE):TS:=fun D σ H=>te σ H fun _ H1=>D.nx σ H1
theorem dX(he:PE X e te)(hs:swapsWith e none pos.line X.env=pure false:=by rfl):PS X (.Expr e pos) (jJ te):=by intro uW s σ H D I h;exact wpAny_Expr_any (thn (he uW s σ H _ I h) fun v s1 ⟨x,H1,I1,r1,q1⟩=>⟨σ,H1,I1,q1⟩) I.quiet hs
def Au(te:TE):TS:=fun D σ H=>te σ H D.rt
theorem mV(he:PE X e te):PS X (.Return (some e) pos) (Au te):=by intro uW s σ H D I h;exact wpAny_Return_some (thn (he uW s σ H _ I h) fun v s1 ⟨x,H1,I1,r1,q1⟩=>⟨x,σ,H1,I1,r1,q1⟩)
def Av(c:TT)(t u:TS):TS:=fun D σ H=>c σ H fun b H1=>if b=true then t D σ H1 else u D σ H1
theorem tX{c:Expr}{a b:List Stmt}{tc:TT}(hc:PT X c tc)(ha:PSs X a t)(hb:PSs X b u):PS X (.If c a b pos) (Av tc t u):=by
 intro uW s σ H D I h;refine wpAny_If (thn (hc uW s σ H _ I h) fun d s1 ⟨H1,I1,q1⟩=>?_);cases d with
 |true=>exact ha uW s1 σ H1 D I1 q1
 |false=>exact hb uW s1 σ H1 D I1 q1
def Kf:TS:=fun _ _ _=>False
theorem BR:PS X st Kf:=fun _ _ _ _ _ _ h=>h.elim
end
noncomputable abbrev TG:=V->St->Hp->(St->Hp->Prop)->Prop
noncomputable abbrev TGs:=List V->St->Hp->(St->Hp->Prop)->Prop
def PG(X:Cx)(target:Expr)(t:TG):Prop:=
 ∀(uW:List (Addr×Obj)) (s:Shared) (σ:St) (H:Hp) (v:V) (u:Value) (Q:St->Hp->Prop),Inv X uW σ H s->RelV v u->t v σ H Q ->
  wpAny (model X.prog X.w) X.A (assign target X.env u) (fun _ s'=>∃σ' H',Inv X uW σ' H' s'/\Q σ' H') X.xe s
def PGs(X:Cx)(ts:List Expr)(t:TGs):Prop:=
 ∀(uW:List (Addr×Obj)) (s:Shared) (σ:St) (H:Hp) (vs:List V) (us:List Value) (Q:St->Hp->Prop),Inv X uW σ H s->Vals vs us->t vs σ H Q ->
  wpAny (model X.prog X.w) X.A (assignInOrder ((assignEach ts X.env).map (·.2)) us) (fun _ s'=>∃σ' H',Inv X uW σ' H' s'/\Q σ' H') X.xe s
noncomputable abbrev Kg:=V->V->V->Hp->(Hp->Prop)->Prop
def NL(X:Cx)(t:Kg):Prop:=
 ∀(uW:List (Addr×Obj)) (s:Shared) (σ:St) (H:Hp) (o i v:V) (ov iv u:Value) (Q:Hp->Prop),Inv X uW σ H s->RelV o ov->RelV i iv->RelV v u->t o i v H Q ->
  wpAny (model X.prog X.w) X.A (setItem ov iv u) (fun _ s'=>∃H',Inv X uW σ H' s'/\Q H') X.xe s
section
variable{X:Cx}{pos:Pos}
section
variable{es:List Expr}{e:Expr}{i:Nat}{x:Str}{te:TE}
def cH(i:Nat):TG:=fun v σ H Q=>Q (σ.set i (some v)) H
theorem mD(hN:X.N.Nodup)(hi:X.N[i]?=some x)(hx:Loc X.env.scope x)(hf:X.fn x=true\/X.env.scope.names.lookup x=some .local:=by trivial):PG X (.Name x pos) (cH i):=by intro uW s σ H v u Q I r h;exact wpAny_assign_Name (tW I hN hi hx r (fun s' I'=>⟨_,H,I',h⟩) hf)
def NN:TGs:=fun vs σ H Q=>vs=[]/\Q σ H
def II(t:TG)(u:TGs):TGs:=fun vs σ H Q=>∃v r,vs=v::r/\t v σ H fun σ' H'=>u r σ' H' Q
theorem Gi:PGs X [] NN:=by intro uW s σ H vs us Q I r h;obtain⟨e,h⟩:=h;subst e;cases r;exact assignInOrder_nil ⟨σ,H,I,h⟩
theorem BS{t:TG}{u:TGs}(h1:PG X e t)(h2:PGs X es u)
  (hs:(assignEach (e::es) X.env).map (·.2)=assign e X.env::(assignEach es X.env).map (·.2):=by rfl):PGs X (e::es) (II t u):=by
 intro uW s σ H vs us Q I r h;obtain⟨v,vr,e1,h⟩:=h;subst e1;cases r with
 |cons r rr=>rw[hs];refine assignInOrder_cons (thn (h1 uW s σ H _ _ _ I r h) fun _ s1 ⟨σ1,H1,I1,q1⟩=>?_);exact h2 uW s1 σ1 H1 _ _ Q I1 rr q1
def NO(K:gc)(n:Nat)(t:TGs):TG:=fun v σ H Q=>∃a xs,v=.ref a/\SqT K H a xs/\xs.length=n/\t xs σ H Q
theorem BU{k:Nat}{t:TGs}{n:Nat}(hc:X.calm=true)(h:PGs X es t)
  (hn:(assignEach es X.env).length=n:=by rfl) (hst:(assignEach es X.env).findIdx? (·.1)=none:=by rfl):PG X (.Tuple es k pos) (NO X.K n t):=by
 intro uW s σ H v u Q I r hw;obtain⟨a,xs,e1,hq,hl,hw⟩:=hw;subst e1;cases r;obtain⟨its,rv,ht,hz⟩:=I.tuple hq;refine assign_Tuple_tuple (I.ok.hd hc) ht (by simp[hn,<- hl,rv.length]) hst fun h' hx=>?_;have I1:Inv X uW σ H { s with heap:=h' }:=I.kept (t':=s.toks) fun b o e=>hx b o (S7 (SI e)) e;exact h uW _ σ H xs _ Q I1 (by simpa using rv) hw
def ir(to ti:TE)(t:Kg):TG:=fun v σ H Q=>to σ H fun o H1=>ti σ H1 fun i H2=>t o i v H2 fun H3=>Q σ H3
theorem Kh{o i:Expr}{to ti:TE}{t:Kg}(ho:PE X o to)(hi:PE X i ti)(hs:NL X t)
  (ha:∀ v,assign (.Subscript o i pos) X.env v=(do
   let ov <- holding [v] (eval o X.env)
   let iv <- holding [v,ov] (eval i X.env)
   standAt pos
   holding [v,ov,iv] (setItem ov iv v)
   release [v,ov,iv] []):=by intro _;rfl):PG X (.Subscript o i pos) (ir to ti t):=by
 intro uW s σ H v u Q I r h;rw[ha];refine wpAny_bind (wpAny_holding (thn (ho uW s σ H _ I h) fun ov s1 ⟨x,H1,I1,r1,q1⟩=>?_));refine wpAny_bind (wpAny_holding (thn (hi uW s1 σ H1 _ I1 q1) fun iv s2 ⟨y,H2,I2,r2,q2⟩=>?_));refine wpAny_bind (wpAny_standAt (wpAny_bind (wpAny_holding (thn (hs uW s2 σ H2 x y v ov iv u _ I2 r1 r2 r q2) fun _ s3 ⟨H3,I3,q3⟩=>?_))));exact wpAny_release ⟨σ,H3,I3,q3⟩
def jK(te:TE)(g:TG):TS:=fun D σ H=>te σ H fun x H1=>g x σ H1 D.nx
theorem Kl{tg e:Expr}{g:TG}(he:PE X e te)(hg:PG X tg g)(hs:swapsWithSole [tg] e pos.line X.env=pure false:=by rfl)(hw:swappedStores [tg] e X.env=pure none:=by rfl)
  (h1:(assignEach [tg] X.env).map (·.2)=[assign tg X.env]:=by rfl):PS X (.Assign [tg] e pos) (jK te g):=by
 intro uW s σ H D I h;refine wpAny_Assign_stores (thn (he uW s σ H _ I h) fun v s1 ⟨x,H1,I1,r1,q1⟩=>?_) hs hw;rw[h1];exact thn (hg uW s1 σ H1 x v _ I1 r1 q1) fun _ s2 q=>q
theorem kH{pos':Pos}(hN:X.N.Nodup)(hi:X.N[i]?=some x)(hx:Loc X.env.scope x)(he:PE X e te)(hs:swapsWith e (some (.Name x pos')) pos.line X.env=pure false:=by rfl)(hf:X.fn x=true\/X.env.scope.names.lookup x=some .local:=by trivial) :
  PS X (.Assign [.Name x pos'] e pos) (jK te (cH i)):=by
 intro uW s σ H D I h;refine wpAny_Assign_Name (thn (he uW s σ H _ I h) fun v s1 ⟨y,H1,I1,r1,q1⟩=>?_) hs;exact tW I1 hN hi hx r1 (fun s2 I2=>⟨_,H1,I2,q1⟩) hf
end
end
section
variable{X:Cx}{pos:Pos}
def BV(c:TT)(tb:TS):TS:=fun D σ H=>∃W:Nat->St->Hp->Prop,(∃m,W m σ H)/\∀m σ H,W m σ H ->
 c σ H fun b H1=>if b=true then ∃N:St->Hp->Prop,(∀σ' H',N σ' H'->∃m',m'<m/\W m' σ' H')/\tb { D with nx:=N,ct:=N,bk:=D.nx } σ H1 else D.nx σ H1
theorem BW{c:Expr}{body:List Stmt}{tc:TT}{tb:TS}(hp:PassesOwn (model X.prog X.w) X.A X.env X.xe)(hc:PT X c tc)(hb:PSs X body tb):PS X (.While c body [] pos) (BV tc tb):=by
 intro uW s σ H D I h;obtain⟨W,⟨m0,w0⟩,turn⟩:=h;refine wpAny_While (codeAny_whileLoop (fun n s'=>∃σ' H',Inv X uW σ' H' s'/\W n σ' H') ?_ m0 ⟨σ,H,I,w0⟩);rintro n s1 ⟨σ1,H1,I1,w1⟩;refine wpAny_passesOwn hp (thn (hc uW s1 σ1 H1 _ I1 (turn n σ1 H1 w1)) fun b s2 ⟨H2,I2,q2⟩=>?_);cases b with
 |true=>
  obtain⟨N,hN,q2⟩:=q2;rw[if_pos rfl];refine wpAny_passesOwn hp (thn (hb uW s2 σ1 H2 _ I2 q2) fun f s3 q3=>?_);cases f with
  |next=>obtain⟨σ3,H3,I3,n3⟩:=q3;obtain⟨m',hm,w3⟩:=hN σ3 H3 n3;exact⟨m',hm,σ3,H3,I3,w3⟩
  |cont=>obtain⟨σ3,H3,I3,n3⟩:=q3;obtain⟨m',hm,w3⟩:=hN σ3 H3 n3;exact⟨m',hm,σ3,H3,I3,w3⟩
  |brk=>exact q3
  |ret v=>exact q3
 |false=>rw[if_neg S3];exact wpAny_execs_nil ⟨σ1,H2,I2,q2⟩
end
section
variable{P:Program}{tg:Expr}{w:World}{s:Shared}{K:gc}
structure It where
 go:Nat->Hp->Prop
 yld:Nat->Hp->V->Hp->Prop
 stop:Nat->Hp->Prop
def ql(X:Cx)(uW:List (Addr×Obj))(H:Hp)(b:Addr):Prop:=
 H b=none/\b≠X.env.locals/\b∉X.fs/\(b∈X.ex\/X.s₀.heap.objs.size<=b)/\(∀x c,X.env.cells.lookup x=some c->c≠b)/\∀p∈X.pn++uW,p.1≠b
theorem Inv.wW{X:Cx}{uW:List (Addr×Obj)}{σ:St}{H H':Hp}{b:Addr}(I:Inv X uW σ H s)(hb:s.heap.objs.size<=b)(hn:H' b=none):ql X uW H' b:=by
 refine⟨hn,Uq (SX I.lt hb),I.QT hb,.inr (S8 I.sz hb),fun x c e z=>?_,fun p hp z=>?_⟩
 ·obtain⟨v,q⟩:=I.cell x c e;exact absurd (SX q.lt (by rw[z];exact hb)) (TU _)
 ·exact absurd (SX (SI (I.pin p hp).1) (by rw[z];exact hb)) (TU _)
structure Turn(P:Program)(w:World)(K:gc)(tg:Expr)(J:It)(fp:List Addr)(it:Addr)(tn:Nat->Heap->Prop):Prop where
 mem:it∈fp
 obj:∀i h,tn i h->∀b∈fp,∃o,h.get? b=some o/\∀v,o.data≠.cell v
 keep:∀i h h',tn i h->(∀b∈fp,∀o,h.get? b=some o->h'.get? b=some o)->tn i h'
 item:∀(X:Cx),X.prog=P->X.w=w->X.K=K->X.calm=true->∀(i:Nat) (uW:List (Addr×Obj)) (s:Shared) (σ:St) (H:Hp) (E:Value->Shared->Prop),Inv X uW σ H s->(∀b∈fp,ql X uW H b)->tn i s.heap->J.go i H ->
  wpAny (model P w) X.A (pyNext (.ref it)) (fun r s1=>∃ u,r=some u ∧
   wpAny (model P w) X.A (letOwnedTupleGo tg (.ref it) u) (fun _ s2=>∃x H',Inv X uW σ H' s2/\RelV x u/\J.yld i H x H'/\tn (i+1) s2.heap/\∀b∈fp,H' b=none) E s1) E s
 done:∀(X:Cx),X.prog=P->X.w=w->X.K=K->X.calm=true->∀(i:Nat) (uW:List (Addr×Obj)) (s:Shared) (σ:St) (H:Hp) (E:Value->Shared->Prop),Inv X uW σ H s->(∀b∈fp,ql X uW H b)->tn i s.heap->J.stop i H ->
  wpAny (model P w) X.A (pyNext (.ref it)) (fun r s1=>r=none/\Inv X uW σ H s1) E s
 self:∀(A:Around) (i:Nat) (s:Shared) (Q:Value->Shared->Prop) (E:Value->Shared->Prop),tn i s.heap->Q (.ref it) s->wpAny (model P w) A (pyIter (.ref it)) Q E s
noncomputable abbrev TI:=St->Hp->(It->Hp->Prop)->Prop
def PIE(X:Cx)(uW:List (Addr×Obj))(σ:St)(tg:Expr)(R:It->Hp->Prop)(itv:Value)(s2:Shared):Prop:=
 ∃(it:Addr) (fp:List Addr) (tn:Nat->Heap->Prop) (J:It) (H':Hp),itv=.ref it/\Inv X uW σ H' s2/\Turn X.prog X.w X.K tg J fp it tn/\tn 0 s2.heap/\(∀b∈fp,ql X uW H' b)/\R J H'
def PI(X:Cx)(tg iter:Expr)(wi:TI):Prop:=
 ∀(uW:List (Addr×Obj)) (s:Shared) (σ:St) (H:Hp) (R:It->Hp->Prop),Inv X uW σ H s->wi σ H R ->
  wpAny (model X.prog X.w) X.A (eval iter X.env) (fun v s1=>wpAny (model X.prog X.w) X.A (pyIter v) (PIE X uW σ tg R) X.xe s1) X.xe s
theorem tY{M:Model}{A:Around}{E:Value->Shared->Prop}{tg:Expr}{it:Addr}{u:Value}{o:Obj}{n:String}{vs:Array Value}{Q:Unit->Shared->Prop}(ho:s.heap.get? it=some o)(hc:o.cls=.type n)(hd:o.data=.fields vs)
  (hn:["enumerate","zip","dict_itemiterator","dict_reverseitemiterator","odict_iterator","itertools.zip_longest","itertools.pairwise"].contains n=false) (hQ:Q () s):wpAny M A (letOwnedTupleGo tg (.ref it) u) Q E s:=by
 unfold letOwnedTupleGo;cases tg<;>first
  |exact wpAny_pure hQ
  | (cases u<;>first
    |exact wpAny_pure hQ
    | (refine wpAny_bind (wpAny_load ho ?_)
       rw[hc,hd];show wpAny M A (if (["enumerate","zip","dict_itemiterator","dict_reverseitemiterator","odict_iterator","itertools.zip_longest","itertools.pairwise"].contains n&&vs[0]? == some (rawInt _))=true then _ else _) Q E s;rw[if_neg (by intro h;rw[hn,Bool.false_and]at h;cases h)];exact wpAny_pure hQ))
noncomputable def Itl(K:gc)(a:Addr):It:=
 ⟨fun i H=>∃xs x,SqL K H a xs/\xs[i]?=some x,fun i H x H'=>H'=H/\∀xs,SqL K H a xs->xs[i]?=some x,fun i H=>∃xs,SqL K H a xs/\xs.length<=i⟩
noncomputable def Itt(K:gc)(a:Addr):It:=
 ⟨fun i H=>∃xs x,SqT K H a xs/\xs[i]?=some x,fun i H x H'=>H'=H/\∀xs,SqT K H a xs->xs[i]?=some x,fun i H=>∃xs,SqT K H a xs/\xs.length<=i⟩
noncomputable def Itr(lo:Int)(n:Nat):It:=⟨fun i _=>i<n,fun i H x H'=>H'=H/\x=.int (lo+i),fun i _=>n<=i⟩
theorem Aw(a it:Addr):Turn P w K tg (Itl K a) [it] it (fun i h=>h.IsListIter it a i) where
 mem:=by simp
 obj:=fun i h st b hb=>by
  have e:b=it:=by simpa using hb
  subst e;obtain⟨o,e,c,d⟩:=st;exact⟨o,e,fun v z=>by rw[d]at z;cases z⟩
 keep:=fun i h h' st k=>st.at fun o e=>k it (by simp) o e
 item:=by intro X hP hw hK hc i uW s σ H E I hf st hg;subst hP hw hK;obtain⟨xs,x,hq,hx⟩:=hg;obtain⟨its,rv,p,hz⟩:=I.list hq;obtain⟨u,hu,ru⟩:=rv.get hx;obtain⟨f0,f1,f2,f3,f4,f5⟩:=hf it (by simp);refine wpAny_pyNext_list_item st p.isList (x:=u) (by simpa using hu) fun h' st' sb=>?_;have I1:Inv X uW σ H { s with heap:=h' }:=I.turned (t':=s.toks) (fun b o hb e=>(sb.2 b hb).trans e) f0 f1 f3 f4 f5;obtain⟨o,e,c,d⟩:=id st';exact⟨u,rfl,tY (s:={ s with heap:=h' }) e c d (by decide) ⟨x,H,I1,ru,⟨rfl,fun ys hy=>by rw[I.fY hy hq];exact hx⟩,st',fun b hb=>(hf b hb).1⟩⟩
 done:=by intro X hP hw hK hc i uW s σ H E I hf st hg;subst hP hw hK;obtain⟨xs,hq,hx⟩:=hg;obtain⟨its,rv,p,hz⟩:=I.list hq;obtain⟨f0,f1,f2,f3,f4,f5⟩:=hf it (by simp);have hl:=rv.length;exact wpAny_pyNext_list_end (I.ok.hd hc) st p.isList (by simp;omega) fun h' eb=>⟨rfl,I.turned (t':=s.toks) (fun b o hb e=>eb b o hb e) f0 f1 f3 f4 f5⟩
 self:=fun _ _ _ _ _ st h=>wpAny_pyIter_listiter st h
theorem wX(a it:Addr):Turn P w K tg (Itt K a) [it] it (fun i h=>h.IsTupleIter it a i) where
 mem:=by simp
 obj:=fun i h st b hb=>by
  have e:b=it:=by simpa using hb
  subst e;obtain⟨o,e,c,d⟩:=st;exact⟨o,e,fun v z=>by rw[d]at z;cases z⟩
 keep:=fun i h h' st k=>st.at fun o e=>k it (by simp) o e
 item:=by intro X hP hw hK hc i uW s σ H E I hf st hg;subst hP hw hK;obtain⟨xs,x,hq,hx⟩:=hg;obtain⟨its,rv,p,hz⟩:=I.tuple hq;obtain⟨u,hu,ru⟩:=rv.get hx;obtain⟨f0,f1,f2,f3,f4,f5⟩:=hf it (by simp);refine wpAny_pyNext_tuple_item st (show s.heap.IsTuple a its.toArray from p) (x:=u) (by simpa using hu) fun h' st' sb=>?_;have I1:Inv X uW σ H { s with heap:=h' }:=I.turned (t':=s.toks) (fun b o hb e=>(sb.2 b hb).trans e) f0 f1 f3 f4 f5;obtain⟨o,e,c,d⟩:=id st';exact⟨u,rfl,tY (s:={ s with heap:=h' }) e c d (by decide) ⟨x,H,I1,ru,⟨rfl,fun ys hy=>by rw[I.As hy hq];exact hx⟩,st',fun b hb=>(hf b hb).1⟩⟩
 done:=by intro X hP hw hK hc i uW s σ H E I hf st hg;subst hP hw hK;obtain⟨xs,hq,hx⟩:=hg;obtain⟨its,rv,p,hz⟩:=I.tuple hq;obtain⟨f0,f1,f2,f3,f4,f5⟩:=hf it (by simp);have hl:=rv.length;exact wpAny_pyNext_tuple_end (I.ok.hd hc) st (show s.heap.IsTuple a its.toArray from p) (by simp;omega) fun h' eb=>⟨rfl,I.turned (t':=s.toks) (fun b o hb e=>eb b o hb e) f0 f1 f3 f4 f5⟩
 self:=fun _ _ _ _ _ st h=>wpAny_pyIter_tupleiter st h
theorem wY(it:Addr)(lo:Int)(n:Nat):Turn P w K tg (Itr lo n) [it] it (fun i h=>IsRangeIter h it (lo+(i:Nat)*1) ((n:Int)-(i:Nat)) 1) where
 mem:=by simp
 obj:=fun i h st b hb=>by
  have e:b=it:=by simpa using hb
  subst e;exact ⟨_,st,fun v z=>by have z':V6 _=VA v:=z;cases z'⟩
 keep:=fun i h h' st k=>k it (by simp) _ st
 item:=by intro X hP hw hK hc i uW s σ H E I hf st hg;subst hP hw hK;obtain⟨f0,f1,f2,f3,f4,f5⟩:=hf it (by simp);have W:=Walks.range (prog:=X.prog) (w:=X.w) (I.ok.hd hc) it lo 1 n;refine W.item i s _ _ hg st fun v h' tk hv st' kk=>?_;obtain⟨t,rfl⟩:=hv;have I1:Inv X uW σ H { s with heap:=h',toks:=tk }:=I.turned (fun b o hb e=>kk b o (by simpa using hb) e) f0 f1 f3 f4 f5;refine⟨_,rfl,tY (s:={ s with heap:=h',toks:=tk }) (n := "range_iterator") st' rfl rfl (by decide) ⟨.int (lo+i),H,I1,⟨t,?_⟩,⟨rfl,rfl⟩,st',fun b hb=>(hf b hb).1⟩⟩;rw[Int.mul_one]
 done:=by intro X hP hw hK hc i uW s σ H E I hf st hg;subst hP hw hK;obtain⟨f0,f1,f2,f3,f4,f5⟩:=hf it (by simp);exact wpAny_pyNext_range_end (I.ok.hd hc) st (by have:n<=i:=hg;omega) fun h' eb=>⟨rfl,I.turned (t':=s.toks) (fun b o hb e=>eb b o hb e) f0 f1 f3 f4 f5⟩
 self:=fun _ _ _ _ _ st h=>wpAny_pyIter_rangeiter st h
end
section
variable{X:Cx}{tg:Expr}
section
variable{uW:List (Addr×Obj)}{fp:List Addr}{s:Shared}{σ:St}{H:Hp}{l:Expr}{h:Heap}{tl:TE}{ta:TA}
def mW(K:gc)(tl:TE):TI:=fun σ H R=>tl σ H fun x H1=>∃a,x=.ref a/\(∃xs,SqL K H1 a xs)/\R (Itl K a) H1
def BX(K:gc)(tl:TE):TI:=fun σ H R=>tl σ H fun x H1=>∃a,x=.ref a/\(∃xs,SqT K H1 a xs)/\R (Itt K a) H1
theorem mE(hl:PE X l tl):PI X tg l (mW X.K tl):=by
 intro uW s σ H R I h;refine thn (hl uW s σ H _ I h) fun v s1 ⟨x,H1,I1,r1,q1⟩=>?_;obtain⟨a,e,⟨xs,hq⟩,q⟩:=q1;subst e;cases r1;obtain⟨its,rv,p,hz⟩:=I1.list hq;refine wpAny_pyIter_list p.isList ?_;refine⟨s1.heap.objs.size,[s1.heap.objs.size],_,_,H1,rfl,I1.kept (t':=s1.toks) fun b o e=>Sz _ e,Aw a _,⟨_,S2 _ rfl,rfl,rfl⟩,fun b hb=>?_,q⟩;have e:b=s1.heap.objs.size:=by simpa using hb
 subst e;exact I1.wW (SA _) (I1.hok.fresh (SA _))
theorem BY(hl:PE X l tl):PI X tg l (BX X.K tl):=by
 intro uW s σ H R I h;refine thn (hl uW s σ H _ I h) fun v s1 ⟨x,H1,I1,r1,q1⟩=>?_;obtain⟨a,e,⟨xs,hq⟩,q⟩:=q1;subst e;cases r1;obtain⟨its,rv,p,hz⟩:=I1.tuple hq;refine wpAny_pyIter_tuple (show s1.heap.IsTuple a its.toArray from p) ?_;refine⟨s1.heap.objs.size,[s1.heap.objs.size],_,_,H1,rfl,I1.kept (t':=s1.toks) fun b o e=>Sz _ e,wX a _,⟨_,S2 _ rfl,rfl,rfl⟩,fun b hb=>?_,q⟩;have e:b=s1.heap.objs.size:=by simpa using hb
 subst e;exact I1.wW (SA _) (I1.hok.fresh (SA _))
theorem tZ{R:It->Hp->Prop}{E:Value->Shared->Prop}{lo hi:Int}{t u v:Tok}{tk:Nat}(I:Inv X uW σ H s)(h1:-(2 ^ 62)<=lo)(h2:lo<2 ^ 62)(h3:-(2 ^ 62)<=hi)(h4:hi<2 ^ 62)
  (q:R (Itr lo (hi-lo).toNat) H):wpAny (model X.prog X.w) X.A (pyIter (.ref s.heap.objs.size)) (PIE X uW σ tg R) E { s with heap:=s.heap.push { cls:=.type "range",data:=.fields #[.int lo t,.int hi u,.int 1 v] },toks:=tk }:=by
 refine wpAny_pyIter_range (IsRange.new ..) (small_one h1 h2 h3 h4) ?_;have I1:Inv X uW σ H { s with heap:=s.heap.push { cls:=.type "range",data:=.fields #[.int lo t,.int hi u,.int 1 v] },toks:=tk }:=I.kept fun b o e=>Sz _ e;refine ⟨(s.heap.push { cls:=.type "range",data:=.fields #[.int lo t,.int hi u,.int 1 v] }).objs.size,[(s.heap.push { cls:=.type "range",data:=.fields #[.int lo t,.int hi u,.int 1 v] }).objs.size],_,_,H,rfl,
  I1.kept (t':=tk) fun b o e=>Sz _ e,wY _ lo (hi-lo).toNat,?_,fun b hb=>?_,q⟩
 ·have e1:lo+((0:Nat):Int)*1=lo:=by simp
  have e2:(((hi-lo).toNat:Nat):Int)-((0:Nat):Int)=Uo lo hi 1:=by rw[rangeSize_one];split<;>omega
  show IsRangeIter _ _ (lo+((0:Nat):Int)*1) ((((hi-lo).toNat:Nat):Int)-((0:Nat):Int)) 1;rw[e1,e2];exact S2 _ rfl
 ·have e:b=(s.heap.push { cls:=.type "range",data:=.fields #[.int lo t,.int hi u,.int 1 v] }).objs.size:=by simpa using hb
  subst e;exact I1.wW (SA _) (I1.hok.fresh (SA _))
def IJ(ta:TA):TI:=fun σ H R=>ta σ H fun vs H1=>∃j:Int,vs=[.int j]/\-(2 ^ 62)<=j/\j<2 ^ 62/\R (Itr 0 j.toNat) H1
def IK(ta:TA):TI:=fun σ H R=>ta σ H fun vs H1=>∃i j:Int,vs=[.int i,.int j]/\(-(2 ^ 62)<=i/\i<2 ^ 62/\-(2 ^ 62)<=j/\j<2 ^ 62)/\R (Itr i (j-i).toNat) H1
theorem Ax{a:Expr}{p pos:Pos}(hg:Gl X "range")(hm:X.mg "range" = none)(ha:PA X [a] ta)(hs:starEach [a] X.env=[(false,eval a X.env)]:=by rfl):PI X tg (.Call (.Name "range" p) [a] [] pos) (IJ ta):=by
 intro uW s σ H R I h;refine Call_ (cY I hg hm boot_range (Tn (thn (ha pos uW s σ H _ I h) fun us s1 ⟨vs,H1,I1,r1,q1⟩=>?_) hs rfl));obtain⟨j,e,q1,q2,q⟩:=q1;subst e;cases r1 with
 |cons r rr=>cases rr;obtain⟨t,rfl⟩:=r;exact call_range_1 (tZ I1 (by omega) (by omega) q1 q2 (by simpa using q))
theorem Ay{a b:Expr}{p pos:Pos}(hg:Gl X "range")(hm:X.mg "range" = none)(ha:PA X [a,b] ta)(hs:starEach [a,b] X.env=[(false,eval a X.env),(false,eval b X.env)]:=by rfl)(hs2:starEach [b] X.env=[(false,eval b X.env)]:=by rfl) :
  PI X tg (.Call (.Name "range" p) [a,b] [] pos) (IK ta):=by
 intro uW s σ H R I h;refine Call_ (cY I hg hm boot_range (Tn (thn (ha pos uW s σ H _ I h) fun us s1 ⟨vs,H1,I1,r1,q1⟩=>?_) (by rw[hs,hs2]) (by rw[hs2];rfl)));obtain⟨i,j,e,⟨q1,q2,q3,q4⟩,q⟩:=q1;subst e;cases r1 with
 |cons r rr=>
  cases rr with
  |cons r' rr=>cases rr;obtain⟨t,rfl⟩:=r;obtain⟨t',rfl⟩:=r';exact call_range_2 (tZ I1 q1 q2 q3 q4 q)
def BZ(wi:TI)(g:TG)(tb:TS):TS:=fun D σ H=>wi σ H fun J H1=>∃W:Nat->Nat->St->Hp->Prop,(∃m,W 0 m σ H1)/\∀i m σ H,W i m σ H ->
 (J.stop i H/\D.nx σ H)\/(J.go i H/\∃N:St->Hp->Prop,(∀σ' H',N σ' H'->∃m',m'<m/\W (i+1) m' σ' H')/\∀x H',J.yld i H x H'->g x σ H' fun σ2 H2=>tb { D with nx:=N,ct:=N,bk:=D.nx } σ2 H2)
noncomputable def mX(fp:List Addr)(h:Heap):List (Addr×Obj):=fp.filterMap fun b=>(h.get? b).map fun o=>(b,o)
theorem ff{b:Addr}{o:Obj}(hb:b∈fp)(e:h.get? b=some o):(b,o)∈mX fp h:=VB.mpr ⟨b,hb,by rw[e];rfl⟩
theorem Az{p:Addr×Obj}(hp:p∈mX fp h):p.1∈fp/\h.get? p.1=some p.2:=by
 obtain⟨b,hb,e⟩:=VB.mp hp;cases q:h.get? b with
 |none=>rw[q]at e;cases e
 |some o=>rw[q]at e;have e':(b,o)=p:=Option.some.inj e;subst e';exact⟨hb,q⟩
theorem Inv.pinned(I:Inv X uW σ H s)(hf:∀b∈fp,ql X uW H b)(ho:∀b∈fp,∃o,s.heap.get? b=some o/\∀v,o.data≠.cell v):Inv X (uW++mX fp s.heap) σ H s:=
 I.yK fun p hp=>(S4.mp hp).elim (fun z=>I.pin p (S5 _ z)) fun z=>by obtain⟨hb,e⟩:=Az z;obtain⟨f0,f1,f2,_⟩:=hf p.1 hb;obtain⟨o,e',d⟩:=ho p.1 hb;rw[e]at e';cases e';exact⟨e,f0,f1,f2,d⟩
theorem Inv.jL{uW pl:List (Addr×Obj)}(I:Inv X (uW++pl) σ H s):Inv X uW σ H s:=I.yK fun p hp=>I.pin p (S5 _ (Tf _ hp))
theorem rR{iter:Expr}{body:List Stmt}{wi:TI}{g:TG}{tb:TS}{pos:Pos}(hp:PassesOwn (model X.prog X.w) X.A X.env X.xe)(hc:X.calm=true)(hi:PI X tg iter wi)(hg:PG X tg g)(hb:PSs X body tb)
  (hs:∀x,foldedSetIterable iter X.env x=pure x:=by intro _;rfl):PS X (.For tg iter body [] pos) (BZ wi g tb):=by
 intro uW s σ H D I h;refine wpAny_For (thn (hi uW s σ H _ I h) fun v s1 h1=>thn h1 fun itv s2 h2=>?_) hs;obtain⟨it,fp,tn,J,H2,e,I2,T,st2,f2,W,⟨m0,w0⟩,turn⟩:=h2;subst e;have stat:∀{H':Hp},(∀b∈fp,H' b=none)->∀b∈fp,ql X uW H' b:=fun hn b hb=>⟨hn b hb,(f2 b hb).2⟩;refine codeAny_forLoop_any (fun n s'=>∃i σ' H',Inv X uW σ' H' s'/\tn i s'.heap/\(∀b∈fp,H' b=none)/\W i n σ' H') ?_ m0 ⟨0,σ,H2,I2,st2,fun b hb=>(f2 b hb).1,w0⟩;rintro n s3 ⟨i,σ3,H3,I3,st3,fr3,w3⟩;rcases turn i n σ3 H3 w3 with⟨stop,qn⟩ | ⟨go,N,hN,step⟩
 ·refine wpAny_passesOwn hp (thn (T.done X rfl rfl rfl hc i uW s3 σ3 H3 X.xe I3 (stat fr3) st3 stop) fun r s4 ⟨hr,I4⟩=>?_);subst hr;exact wpAny_execs_nil ⟨σ3,H3,I4,qn⟩
 ·refine wpAny_passesOwn hp (thn (T.item X rfl rfl rfl hc i uW s3 σ3 H3 X.xe I3 (stat fr3) st3 go) fun r s4 ⟨u,hr,h4⟩=>?_);subst hr;refine wpAny_passesOwn hp (thn h4 fun _ s5 ⟨x,H5,I5,r5,y5,st5,fr5⟩=>?_);have I5':=I5.pinned (stat fr5) (T.obj _ _ st5);refine wpAny_passesOwn hp (thn (hg _ s5 σ3 H5 x u _ I5' r5 (step x H5 y5)) fun _ s6 ⟨σ6,H6,I6,q6⟩=>?_);refine wpAny_passesOwn hp (thn (hb _ s6 σ6 H6 _ I6 q6) fun f s7 q7=>?_);have again:∀{σ7:St} {H7:Hp},Inv X (uW++mX fp s5.heap) σ7 H7 s7->N σ7 H7->∃m,m<n/\∃i σ' H',Inv X uW σ' H' s7/\tn i s7.heap/\(∀b∈fp,H' b=none)/\W i m σ' H':=fun {σ7 H7} I7 n7=>by
   obtain⟨m',hm,w7⟩:=hN σ7 H7 n7;refine⟨m',hm,i+1,σ7,H7,I7.jL,T.keep _ _ _ st5 fun b hb o e=>(I7.pin (b,o) (S5 _ (S5 _ (ff hb e)))).1,fun b hb=>?_,w7⟩;obtain⟨o,e,d⟩:=T.obj _ _ st5 b hb;exact(I7.pin (b,o) (S5 _ (S5 _ (ff hb e)))).2.1
  cases f with
  |next=>obtain⟨σ7,H7,I7,n7⟩:=q7;exact again I7 n7
  |cont=>obtain⟨σ7,H7,I7,n7⟩:=q7;exact again I7 n7
  |brk=>obtain⟨σ7,H7,I7,q7⟩:=q7;exact⟨σ7,H7,I7.jL,q7⟩
  |ret v=>obtain⟨x7,σ7,H7,I7,r7,q7⟩:=q7;exact⟨x7,σ7,H7,I7.jL,r7,q7⟩
end
end
noncomputable abbrev R2:=V->V->Hp->VK->Prop
def OpR(X:Cx)(f:Value->Value->Sem Value)(r:R2):Prop:=
 ∀(uW:List (Addr×Obj)) (s:Shared) (σ:St) (H:Hp) (x y:V) (v u:Value) (Q:VK),Inv X uW σ H s->RelV x v->RelV y u->r x y H Q ->
  wpAny (model X.prog X.w) X.A (f v u) (EP X uW σ Q) X.xe s
def cg(X:Cx)(f:Value)(r:List V->Hp->VK->Prop):Prop:=
 ∀(uW:List (Addr×Obj)) (s:Shared) (σ:St) (H:Hp) (xs:List V) (us:List Value) (Q:VK),Inv X uW σ H s->Vals xs us->r xs H Q ->
  wpAny (model X.prog X.w) X.A (call f us) (EP X uW σ Q) X.xe s
def QW(X:Cx)(r:V->Hp->(Bool->Hp->Prop)->Prop):Prop:=
 ∀(uW:List (Addr×Obj)) (s:Shared) (σ:St) (H:Hp) (x:V) (v:Value) (Q:Bool->Hp->Prop),Inv X uW σ H s->RelV x v->r x H Q ->
  wpAny (model X.prog X.w) X.A (truthy v) (TP X uW σ Q) X.xe s
def tOp(r:R2)(ta tb:TE):TE:=fun σ H Q=>ta σ H fun x H1=>tb σ H1 fun y H2=>r x y H2 Q
def tUn(r:V->Hp->VK->Prop)(ta:TE):TE:=fun σ H Q=>ta σ H fun x H1=>r x H1 Q
def rI(C:Int->Int->Prop)(g:Int->Int->V):R2:=fun x y H Q=>∃i j,x=.int i/\y=.int j/\C i j/\Q (g i j) H
def rI0(g:Int->Int->V):R2:=fun x y H Q=>∃i j,x=.int i/\y=.int j/\Q (g i j) H
section
variable{X:Cx}{a b c:Expr}{ta tb tc:TE}{pos:Pos}
theorem Km(ha:PE X a ta)(hb:PE X b tb){uW:List (Addr×Obj)}{s:Shared}{σ:St}{H:Hp}{R:V->V->Hp->Prop}(I:Inv X uW σ H s)
  (h:ta σ H fun x H1=>tb σ H1 fun y H2=>R x y H2) {Q:Value->Shared->Prop} {f:Value->Value->Sem Value}
  (hf:∀v u s2 x y H2,Inv X uW σ H2 s2->RelV x v->RelV y u->R x y H2->wpAny (model X.prog X.w) X.A (f v u) Q X.xe s2) :
  wpAny (model X.prog X.w) X.A (eval a X.env) (fun v s₁=>wpAny (model X.prog X.w) X.A (eval b X.env) (fun u s₂=>wpAny (model X.prog X.w) X.A (f v u) Q X.xe s₂) X.xe s₁) X.xe s:=by
 refine thn (ha uW s σ H _ I h) fun v s1 ⟨x,H1,I1,r1,q1⟩=>?_;refine thn (hb uW s1 σ H1 _ I1 q1) fun u s2 ⟨y,H2,I2,r2,q2⟩=>?_;exact hf v u s2 x y H2 I2 r1 r2 q2
theorem NP{op:Operator}{r:R2}(ho:OpR X (binaryOp op) r)(ha:PE X a ta)(hb:PE X b tb):PE X (.BinOp a op b pos) (tOp r ta tb):=by intro uW s σ H Q I h;exact wpAny_BinOp (Km ha hb I h fun v u s2 x y H2 I2 rx ry q=>ho uW s2 σ H2 x y v u Q I2 rx ry q)
theorem opI{f:Value->Value->Sem Value}{C:Int->Int->Prop}{g:Int->Int->Int}
  (rule:∀(i j:Int) (t u:Tok) (s:Shared) (Q:Value->Shared->Prop) (E:Value->Shared->Prop),C i j->Q (.int (g i j) s.toks) { s with toks:=s.toks+1 }->wpAny (model X.prog X.w) X.A (f (.int i t) (.int j u)) Q E s) :
  OpR X f (rI C fun i j=>.int (g i j)):=by
 intro uW s σ H x y v u Q I rx ry h;obtain⟨i,j,rfl,rfl,hc,q⟩:=h;obtain⟨t,rfl⟩:=rx;obtain⟨t',rfl⟩:=ry;exact rule i j t t' s _ _ hc ⟨.int (g i j),H,I.tok _,⟨_,rfl⟩,q⟩
theorem NQ{f:Value->Value->Sem Value}{g:Int->Int->Int}
  (rule:∀(i j:Int) (t u:Tok) (s:Shared) (Q:Value->Shared->Prop) (E:Value->Shared->Prop),Q (.int (g i j) s.toks) { s with toks:=s.toks+1 }->wpAny (model X.prog X.w) X.A (f (.int i t) (.int j u)) Q E s) :
  OpR X f (rI0 fun i j=>.int (g i j)):=by
 intro uW s σ H x y v u Q I rx ry h;obtain⟨i,j,rfl,rfl,q⟩:=h;obtain⟨t,rfl⟩:=rx;obtain⟨t',rfl⟩:=ry;exact rule i j t t' s _ _ ⟨.int (g i j),H,I.tok _,⟨_,rfl⟩,q⟩
theorem Gj{f:Value->Value->Sem Value}{g:Int->Int->Bool}
  (rule:∀(i j:Int) (t u:Tok) (s:Shared) (Q:Value->Shared->Prop) (E:Value->Shared->Prop),Q (.bool (g i j)) s->wpAny (model X.prog X.w) X.A (f (.int i t) (.int j u)) Q E s) :
  OpR X f (rI0 fun i j=>.bl (g i j)):=by
 intro uW s σ H x y v u Q I rx ry h;obtain⟨i,j,rfl,rfl,q⟩:=h;obtain⟨t,rfl⟩:=rx;obtain⟨t',rfl⟩:=ry;exact rule i j t t' s _ _ ⟨.bl (g i j),H,I,rfl,q⟩
def NR(i j:Int):Prop:=0<=j/\j<=1000000/\i.natAbs<2 ^ 64
def B0(i j:Int):Prop:=(-(2 ^ 64)<i/\i<2 ^ 64)\/(-(2 ^ 64)<j/\j<2 ^ 64)
theorem B0.ok{i j:Int}(h:B0 i j):IntMulOk i j:=by
 rcases h with⟨h1,h2⟩ | ⟨h1,h2⟩
 ·exact .of_left (intBits_le_64 h1 h2)
 ·exact .of_right (intBits_le_64 h1 h2)
theorem Kn:OpR X (binaryOp .Add) (rI0 fun i j=>.int (i+j)):=NQ fun _ _ _ _ _ _ _ q=>add_int q
theorem Ko:OpR X (binaryOp .Sub) (rI0 fun i j=>.int (i-j)):=NQ fun _ _ _ _ _ _ _ q=>sub_int q
theorem Kp:OpR X (binaryOp .Mult) (rI B0 fun i j=>.int (i*j)):=opI fun _ _ _ _ _ _ _ hc q=>mul_int q hc.ok
theorem Kq:OpR X (binaryOp .Mod) (rI (fun _ j=>0<j) fun i j=>.int (i % j)):=opI fun i j _ _ _ _ _ hc q=>by have h1:(0:Int)<j:=hc;exact mod_int' (by omega) (by rw[Int.fmod_eq_emod_of_nonneg i (by omega)];exact q)
theorem Kr:OpR X (binaryOp .Pow) (rI NR fun i j=>.int (i ^ j.toNat)):=opI fun _ _ _ _ _ _ _ hc q=>pow_int_small hc.1 hc.2.1 hc.2.2 q
end
section
variable{X:Cx}{a b c:Expr}{ta tb tc:TE}{pos:Pos}
theorem B3:OpR X (compareOp .Lt) (rI0 fun i j=>.bl (decide (i<j))):=Gj fun _ _ _ _ _ _ _ q=>lt_int q
theorem yM:OpR X (compareOp .LtE) (rI0 fun i j=>.bl (decide (i<=j))):=Gj fun _ _ _ _ _ _ _ q=>le_int q
theorem NT:OpR X (compareOp .Gt) (rI0 fun i j=>.bl (decide (j<i))):=Gj fun _ _ _ _ _ _ _ q=>gt_int q
theorem NU:OpR X (compareOp .GtE) (rI0 fun i j=>.bl (decide (j<=i))):=Gj fun _ _ _ _ _ _ _ q=>ge_int q
theorem OpR.or{f:Value->Value->Sem Value}{r r':R2}(h:OpR X f r)(h':OpR X f r'):OpR X f (fun x y H Q=>r x y H Q\/r' x y H Q):=by
 intro uW s σ H x y v u Q I rx ry q;rcases q with q | q
 ·exact h uW s σ H x y v u Q I rx ry q
 ·exact h' uW s σ H x y v u Q I rx ry q
theorem dJ(b:Expr){op:CmpOp}(h:op≠.In:=by decide)(h2:op≠.NotIn:=by decide):behindInMarks op b=false:=by
 have e1:(op == CmpOp.In)=false:=by cases op<;>first | rfl | exact absurd rfl h
 have e2:(op == CmpOp.NotIn)=false:=by cases op<;>first | rfl | exact absurd rfl h2
 cases b<;>simp[behindInMarks,e1,e2]
theorem Gk{op:CmpOp}{r:R2}(ho:OpR X (compareOp op) r)(ha:PE X a ta)(hb:PE X b tb)(hm:behindInMarks op b=false):PE X (.Compare a [op] [b] pos) (tOp r ta tb):=by intro uW s σ H Q I h;exact wpAny_Compare1 (Km ha hb I h fun v u s2 x y H2 I2 rx ry q=>ho uW s2 σ H2 x y v u Q I2 rx ry q) hm
def IL(t:TE):TT:=fun σ H Q=>t σ H fun x H'=>∃k,x=.bl k/\Q k H'
theorem Gm{op:CmpOp}{r:R2}(ho:OpR X (compareOp op) r)(ha:PE X a ta)(hb:PE X b tb)(hm:behindInMarks op b=false):PT X (.Compare a [op] [b] pos) (IL (tOp r ta tb)):=by
 intro uW s σ H Q I h;refine wpAny_isTrue_Compare1 (thn (ha uW s σ H _ I h) fun v s1 ⟨x,H1,I1,r1,q1⟩=>thn (hb uW s1 σ H1 _ I1 q1) fun u s2 ⟨y,H2,I2,r2,q2⟩=>thn (ho uW s2 σ H2 x y v u _ I2 r1 r2 q2) fun c s3 ⟨z,H3,I3,r3,k,e,q3⟩=>?_) hm
 subst e;cases r3;exact wpAny_truthy_bool ⟨H3,I3,q3⟩
def B4(r r':R2)(ta tb tc:TE):TE:=fun σ H Q=>ta σ H fun x H1=>tb σ H1 fun y H2=>r x y H2 fun z H3=>∃k,z=.bl k /\
 (if k=true then tc σ H3 fun w' H4=>r' y w' H4 Q else Q (.bl false) H3)
theorem B5{op op':CmpOp}{r r':R2}(ho:OpR X (compareOp op) r)(ho':OpR X (compareOp op') r')(ha:PE X a ta)(hb:PE X b tb)(hc:PE X c tc)
  (hm:lastMarks [op,op'] [b,c]=false:=by with_unfolding_all rfl):PE X (.Compare a [op,op'] [b,c] pos) (B4 r r' ta tb tc):=by
 intro uW s σ H Q I h;refine Compare_chain (thn (ha uW s σ H _ I h) fun v s1 ⟨x,H1,I1,r1,q1⟩=>chain_link (thn (hb uW s1 σ H1 _ I1 q1) fun u s2 ⟨y,H2,I2,r2,q2⟩=>thn (ho uW s2 σ H2 x y v u _ I2 r1 r2 q2) fun d s3 ⟨z,H3,I3,r3,k,e,q3⟩=>?_)) hm
 subst e;cases r3;refine wpAny_truthy_bool ?_;cases k with
 |false=>exact ite_ff ⟨.bl false,H3,I3,rfl,q3⟩
 |true=>exact ite_tt (chain_last (thn (hc uW s3 σ H3 _ I3 q3) fun w' s4 ⟨z',H4,I4,r4,q4⟩=>ho' uW s4 σ H4 y z' u w' Q I4 r2 r4 q4))
def Ks(K:gc)(x:V)(H:Hp)(k:Bool):Prop:=
 match x with
 |.non=>k=false
 |.bl b=>k=b
 |.int i=>k=(i != 0)
 |.str y=>y.length<=sizeLine/\k=((y.length:Int) != 0)
 |.byt y=>y.size<=sizeLine/\k=((y.size:Int) != 0)
 |.ref p=>(∃xs,SqL K H p xs/\k=!xs.isEmpty)\/(∃xs,SqT K H p xs/\k=!xs.isEmpty)\/∃kvs,H p=some (.dK kvs)/\k=!kvs.isEmpty
 |_=>False
theorem wZ{κ:Type}{kvs:List (κ×V)}{vs:List (κ×Value)}(r:KV kvs vs):(!vs.isEmpty)=!kvs.isEmpty:=by cases r<;>rfl
theorem mY{xs:List V}{its:List Value}(r:Vals xs its):(!its.toArray.isEmpty)=!xs.isEmpty:=by cases r<;>simp
theorem mZ:(sizeLine:Nat)<2 ^ 63:=by rw[sizeLine_eq];decide
theorem Ku:QW X (fun x H Q=>∃k,Ks X.K x H k/\Q k H):=by
 intro uW s σ H x v Q I rx h;obtain⟨k,e,q⟩:=h;have hl:=mZ;have hs:sizeLine=16777216:=sizeLine_eq;cases x with
 |non=>cases rx;have e':k=false:=e;subst e';exact truthy_none ⟨H,I,q⟩
 |bl b=>cases rx;have e':k=b:=e;subst e';exact wpAny_truthy_bool ⟨H,I,q⟩
 |int i=>obtain⟨t,rfl⟩:=rx;have e':k=(i != 0):=e;subst e';exact PySem.P.truthy_int ⟨H,I,q⟩
 |str y=>obtain⟨t,rfl⟩:=rx;obtain⟨hy,e'⟩:y.length<=sizeLine/\k=((y.length:Int) != 0):=e;subst e';exact PySem.P.truthy_str (by omega) ⟨H,I.tok _,q⟩
 |byt y=>obtain⟨t,rfl⟩:=rx;obtain⟨hy,e'⟩:y.size<=sizeLine/\k=((y.size:Int) != 0):=e;subst e';exact PySem.W.truthy_bytes (by omega) ⟨H,I.tok _,q⟩
 |ref p=>
  cases rx;have e':(∃xs,SqL X.K H p xs/\k=!xs.isEmpty)\/(∃xs,SqT X.K H p xs/\k=!xs.isEmpty)\/∃kvs,H p=some (.dK kvs)/\k=!kvs.isEmpty:=e;rcases e' with⟨xs,hx,e'⟩ | ⟨xs,hx,e'⟩ | ⟨kvs,hx,e'⟩
  ·subst e';obtain⟨its,r,pl,hz⟩:=I.list hx;have Fd:=r.length;exact wpAny_truthy_list pl.isList (by simp only[SG];omega) ⟨H,I.tok _,by rw[mY r];exact q⟩
  ·subst e';obtain⟨its,r,pl,hz⟩:=I.tuple hx;have Fd:=r.length;exact truthy_tuple pl (by simp only[SG];omega) ⟨H,I.tok _,by rw[mY r];exact q⟩
  ·subst e';obtain⟨hz,hS,vs,r,m⟩:kvs.length<=sizeLine/\(p == sysModules)=false/\∃vs,KV kvs vs/\s.heap.DictOf (aU X.prog X.w) p vs:=I.hok p _ hx;have Fd:kvs.length=vs.length:=Paired.length r;exact wpAny_truthy_dict hS m (by omega) ⟨H,I.tok _,by rw[wZ r];exact q⟩
 |_=>exact(show False from e).elim
theorem B6(ha:PE X a ta)(he:∀whole,isTrue a X.env whole=(do let v <- whole;standAt a.pos;holding [v] (truthy v))) :
  PT X a (fun σ H Q=>ta σ H fun x H'=>∃k,Ks X.K x H' k/\Q k H'):=by
 intro uW s σ H Q I h;exact isTrue_plain (thn (ha uW s σ H _ I h) fun v s1 ⟨x,H1,I1,r1,q1⟩=>Ku uW s1 σ H1 x v Q I1 r1 q1) (he _)
theorem vals1{x:V}{us:List Value}(r:Vals [x] us):∃u,us=[u]/\RelV x u:=by
 cases r with
 |cons r1 r2=>cases r2;exact⟨_,rfl,r1⟩
theorem vals2{x y:V}{us:List Value}(r:Vals [x,y] us):∃u w',us=[u,w']/\RelV x u/\RelV y w':=by
 cases r with
 |cons r1 r2=>
  cases r2 with
  |cons r3 r4=>cases r4;exact⟨_,_,rfl,r1,r3⟩
theorem AA(hc:X.calm=true):cg X (.builtin "max") (fun xs H Q=>∃i j,xs=[.int i,.int j]/\Q (.int (if j>i then j else i)) H):=by
 intro uW s σ H xs us Q I r h;obtain⟨i,j,rfl,q⟩:=h;obtain⟨u,w',rfl,⟨t,rfl⟩,⟨t',rfl⟩⟩:=vals2 r;refine max_two_ints (I.ok.hd hc) fun h' tk k=>⟨_,H,I.kept k,?_,q⟩;by_cases hj:j>i
 ·rw[if_pos hj,if_pos hj];exact⟨_,rfl⟩
 ·rw[if_neg hj,if_neg hj];exact⟨_,rfl⟩
theorem AB(hc:X.calm=true):cg X (.builtin "min") (fun xs H Q=>∃i j,xs=[.int i,.int j]/\Q (.int (if j<i then j else i)) H):=by
 intro uW s σ H xs us Q I r h;obtain⟨i,j,rfl,q⟩:=h;obtain⟨u,w',rfl,⟨t,rfl⟩,⟨t',rfl⟩⟩:=vals2 r;refine min_two_ints (I.ok.hd hc) fun h' tk k=>⟨_,H,I.kept k,?_,q⟩;by_cases hj:j<i
 ·rw[if_pos hj,if_pos hj];exact⟨_,rfl⟩
 ·rw[if_neg hj,if_neg hj];exact⟨_,rfl⟩
theorem AD:cg X (.type "int") (fun xs H Q=>(∃i,xs=[.int i]/\Q (.int i) H)\/∃k,xs=[.bl k]/\Q (.int (if k then 1 else 0)) H):=by
 intro uW s σ H xs us Q I r h;rcases h with⟨i,rfl,q⟩ | ⟨k,rfl,q⟩
 ·obtain⟨u,rfl,t,rfl⟩:=vals1 r;exact call_int_int ⟨.int i,H,I,⟨_,rfl⟩,q⟩
 ·obtain⟨u,rfl,r1⟩:=vals1 r;cases r1;exact call_int_bool ⟨.int (if k then 1 else 0),H,I.tok _,⟨_,rfl⟩,q⟩
end
section
variable{mA:Str->Option Value}{h:Heap}
structure Kv(h:Heap)(x dx C:Addr)(mA:Str->Option Value):Prop where
 obj:h.get? x=some (VZ C dx)
 ns:h.Ns1 dx mA
 ne:dx≠x
theorem AE{dx:Addr}(n:h.Ns1 dx mA):∃od,h.get? dx=some od/\∀name,V7 name od=some (mA name):=by
 obtain⟨o,es,ep,ho,hd,hk,_,hm⟩:=n;refine⟨o,ho,fun name=>?_⟩;have e:=hm name;unfold nsFind findBy at e;rw[<- Array.find?_toList]at e;unfold V7;rw[hd];dsimp only;split
 ·rename_i y q;rw[q]at e;exact congrArg some e
 ·rename_i q;rw[q]at e;have a:es.toList.any (·.refKey)=false:=by
   rw[List.any_eq_false];intro y hy;obtain⟨z,t,hkey⟩:=hk y (Array.mem_toList_iff.mp hy);simp[DictEntry.refKey,hkey]
  have a':¬es.toList.any (·.refKey)=true:=by rw[a];exact S3
  rw[if_neg a'];exact congrArg some e
theorem Kv.look{x dx C:Addr}(I:Kv h x dx C mA):∃od,PySem.W.InstAt h x (VZ C dx) C (some od)/\∀name,V7 name od=some (mA name):=
 let ⟨od,ho,hl⟩:=AE I.ns
 ⟨od,⟨I.obj,rfl,rfl,ho⟩,hl⟩
end
theorem jH.some_of{v:V}{o:Option Value}(r:jH (some v) o):∃u,o=some u/\RelV v u:=by
 cases o with
 |none=>exact(show False from r).elim
 |some u=>exact⟨u,rfl,r⟩
section
variable{P:Program}{w:World}{H H':Hp}{h h':Heap}{a C dx:Addr}{fs fs':List (Str×V)}
theorem Gn(hok:HOk P w H h)(e:H a=some (.ins C dx fs)):∃mA,Kv h a dx C mA/\(∀f,jH (fs.lookup f) (mA f))/\PySem.Within mA (fs.map (·.1))/\fs.length<=1000/\H dx=some (.own a):=by
 obtain⟨d,z,ne,ob,mA,n,r,q⟩:=(show aT P w H h a (.ins C dx fs) from hok a _ e)
 exact⟨mA,⟨ob,n,ne⟩,r,q,z,d⟩
end
structure Cls(K:gc)(C:Addr):Prop where
 pg:PySem.W.plainGet K C Str.empty=true
 hd:PySem.W.hasDictIn K C=true
 po:PySem.W.plainOver K C=true
 sa:PySem.W.findIn K (.ref C) "__setattr__" = some (some (.builtin "object.__setattr__"))
theorem Cls.get{K:gc}{C:Addr}(c:Cls K C)(f:Str):PySem.W.plainGet K C f=true:=c.pg
section
variable{X:Cx}{uW:List (Addr×Obj)}{σ:St}{H:Hp}{s:Shared}{A:Around}{E:Value->Shared->Prop}{Q:Value->Shared->Prop}{c:Value}{b:Bool}
inductive jM(K:gc)(H:Hp):V->Value->Prop where
 |non:jM K H .non (.type "NoneType")
 |bl (x:Bool):jM K H (.bl x) (.type "bool")
 |int (i:Int):jM K H (.int i) (.type "int")
 |str (x:Str):jM K H (.str x) (.type "str")
 |flt (x:UInt64):jM K H (.flt x) (.type "float")
 |lst {a:Addr} {xs:List V} (e:H a=some (.lst xs)):jM K H (.ref a) (.type "list")
 |frz {a:Addr} {o:Obj} {xs:List V} (e:H a=some (.frz o (.lst xs))):jM K H (.ref a) (.type "list")
 |tup {a:Addr} {xs:List V} (e:H a=some (.tup xs)):jM K H (.ref a) (.type "tuple")
 |dK {a:Addr} {kvs:List (Key×V)} (e:H a=some (.dK kvs)):jM K H (.ref a) (.type "dict")
 |dT {a:Addr} {kvs:List (List Key×V)} (e:H a=some (.dT kvs)):jM K H (.ref a) (.type "dict")
 |ins {a C dx:Addr} {fs:List (Str×V)} (e:H a=some (.ins C dx fs)) (cl:Cls K C) (ha:PySem.W.findIn K (.ref C) "__class__" = some (some (.builtin "object.__class__")))
   (hn:PySem.W.specialIn K (.builtin "object.__class__") "__get__" = some (some (.builtin "getset_descriptor.__get__"))) (htk:PySem.W.takesIn K (.builtin "object.__class__")=some true)
   (hm:PySem.W.mroIn K C (.type "object")=some true):jM K H (.ref a) (.ref C)
theorem AF{x:V}{u t:Value}(I:Inv X uW σ H s)(rx:RelV x u)(ty:jM X.K H x t)(e:V8 X.K t c=some b)(h:∀tk,Q (.bool b) { s with toks:=tk }) :
  wpAny (model X.prog X.w) A (call (.builtin "isinstance") [u,c]) Q E s:=by
 cases ty with
 |non=>cases (show u=Value.none from rx);exact T3 PySem.W.kitx_none I.kIn Uk e (fun z=>nomatch z) h
 |bl y=>cases (show u=Wo y from rx);exact T3 PySem.W.kitx_bool I.kIn Uk e (fun z=>nomatch z) h
 |int i=>obtain⟨t,q⟩:=(show ∃t,u=Value.int i t from rx);cases q;exact T3 PySem.W.kitx_int I.kIn Uk e (fun z=>nomatch z) h
 |str y=>obtain⟨t,q⟩:=(show ∃t,u=VY y t from rx);cases q;exact T3 PySem.W.kitx_str I.kIn Uk e (fun z=>nomatch z) h
 |flt y=>obtain⟨t,q⟩:=(show ∃t,u=Value.float y t from rx);cases q;exact T3 PySem.W.kitx_float I.kIn Uk e (fun z=>nomatch z) h
 |@lst a xs ea=>
  cases (show u=TQ a from rx);obtain⟨_,_,n,_,h1⟩:=(show aT X.prog X.w H s.heap a (.lst xs) from I.hok a _ ea)
  exact T3 PySem.W.kitx_list I.kIn ⟨_,h1,rfl⟩ e (fun z=>nomatch z) h
 |@frz a ob xs ea=>
  cases (show u=TQ a from rx);obtain⟨_,_,_,n,_,h1⟩:=(show aT X.prog X.w H s.heap a (.frz ob (.lst xs)) from I.hok a _ ea)
  exact T3 PySem.W.kitx_list I.kIn ⟨_,h1,rfl⟩ e (fun z=>nomatch z) h
 |@tup a xs ea=>
  cases (show u=TQ a from rx);obtain⟨_,_,_,p⟩:=(show aT X.prog X.w H s.heap a (.tup xs) from I.hok a _ ea)
  obtain⟨o,h1,h2,_⟩:=p;exact T3 PySem.W.kitx_tuple I.kIn ⟨o,h1,h2⟩ e (fun z=>nomatch z) h
 |@dK a kvs ea=>
  cases (show u=TQ a from rx);obtain⟨_,_,vs,_,p⟩:=(show aT X.prog X.w H s.heap a (.dK kvs) from I.hok a _ ea)
  obtain⟨o,es,ep,h1,h2,_⟩:=p;exact T3 PySem.W.kitx_dict I.kIn ⟨o,h1,h2.1⟩ e (fun z=>nomatch z) h
 |@dT a kvs ea=>
  cases (show u=TQ a from rx);obtain⟨_,_,xs,_,o,es,ep,h1,h2,_⟩:=(show aT X.prog X.w H s.heap a (.dT kvs) from I.hok a _ ea)
  exact T3 PySem.W.kitx_dict I.kIn ⟨o,h1,h2.1⟩ e (fun z=>nomatch z) h
 |@ins a C dx fs ea cl ha hn htk hm=>cases (show u=TQ a from rx);obtain⟨mA,O,_⟩:=Gn I.hok ea;obtain⟨od,J,_⟩:=O.look;exact T3 (PySem.W.kitx_own (cl.get _) cl.hd ha hn htk hm) I.kIn J e (fun z=>nomatch z) h
end
section
variable{A:Around}{k:Nat}
structure bq(k:Nat)(A:Around):Prop where
 hd:A.handled=none
 dp:A.depth+3*k+5<recursionLimit
 un:A.units+16*k+200<cLine
 gd:A.guards=some []
theorem bq.mono{j k:Nat}(r:bq k A)(h:j<=k):bq j A:=⟨r.hd,by have:=r.dp;omega,by have:=r.un;omega,r.gd⟩
theorem bq.deeper(r:bq (k+1) A)(env:Env):bq k (A.deeper env):=
 ⟨r.hd,by have:=r.dp;show A.depth+1+3*k+5<_;omega,by have:=r.un;show A.units+3+16*k+200<_;omega,r.gd⟩
theorem bq.depth(r:bq k A):A.depth<recursionLimit:=by have:=r.dp;omega
theorem bq.units(r:bq k A):A.units+64<cLine:=by have:=r.un;omega
def kI:TA:=fun _ H Q=>Q [] H
def eG(ta:TE)(tr:TA):TA:=fun σ H Q=>ta σ H fun x H1=>tr σ H1 fun xs H2=>Q (x::xs) H2
end
section
variable{X:Cx}{e:Expr}{es:List Expr}{te:TE}{t:TA}{pos:Pos}
theorem dM:PA X [] kI:=fun _ _ _ _ H Q I h=>Um ⟨[],H,I,.nil,h⟩
theorem b4(ha:PE X e te)(hr:PA X es t)(hs:starEach (e::es) X.env=(false,eval e X.env)::starEach es X.env:=by rfl):PA X (e::es) (eG te t):=by intro pos uW s σ H Q I h;rw[hs];show wpAny _ _ (spliced ((false,eval e X.env)::backTo pos (starEach es X.env))) _ _ s;refine VC (thn (ha uW s σ H _ I h) fun u s1 ⟨x,H1,I1,r1,q1⟩=>?_);exact thn (hr pos uW s1 σ H1 _ I1 q1) fun us s2 ⟨xs,H2,I2,r2,q2⟩=>⟨x::xs,H2,I2,.cons r1 r2,q2⟩
def Gp(t:TA):TE:=fun σ H Q=>t σ H fun xs H1=>xs.length<=sizeLine/\∀p,H1 p=none->Q (.ref p) (upd H1 p (.tup xs))
def B7(t:TA):TE:=fun σ H Q=>t σ H fun xs H1=>xs.length<=sizeLine/\∀p,H1 p=none->Q (.ref p) (upd H1 p (.lst xs))
theorem w_{x1}(h:PA X es t):PE X (.Tuple es x1 pos) (Gp t):=by intro uW s σ H Q I hq;refine wpAny_Tuple_spliced (thn (h pos uW s σ H _ I hq) fun us s1 ⟨xs,H1,I1,r,z,q⟩=>⟨by rw[<- r.length];exact z,?_⟩);have hf:H1 s1.heap.objs.size=none:=I1.hok.fresh (SA _);refine⟨.ref s1.heap.objs.size,upd H1 s1.heap.objs.size (.tup xs),I1.laid (t':=s1.toks) (fun b u e=>Sz _ e) (SA _) ?_,rfl,q _ hf⟩;exact⟨z,us,r,⟨_,S2 _ rfl,rfl,_,rfl⟩⟩
theorem xg(h:PA X es t):PE X (.List es pos) (B7 t):=by intro uW s σ H Q I hq;refine wpAny_List_spliced (thn (h pos uW s σ H _ I hq) fun us s1 ⟨xs,H1,I1,r,z,q⟩=>⟨by rw[<- r.length];exact z,?_⟩);have hf:H1 s1.heap.objs.size=none:=I1.hok.fresh (SA _);refine⟨.ref s1.heap.objs.size,upd H1 s1.heap.objs.size (.lst xs),I1.laid (t':=s1.toks) (fun b u e=>Sz _ e) (SA _) ?_,rfl,q _ hf⟩;exact⟨z,us,0,r,S2 _ rfl⟩
end
noncomputable abbrev Sp:=List V->Hp->VK->XK->Prop
noncomputable abbrev CXT:=List Env->Hp->Shared->XK->Value->Shared->Prop
structure Gq(P:Program)(w:World)(K:gc)(mg:Str->Option Value)(base:Heap)(A:Around)(outer:List Env)(s:Shared)(H:Hp):Prop where
 frames:A.frames=some outer
 mod:Mod K mg base
 bs:∀b o,base.get? b=some o->s.heap.get? b=some o/\H b=none
 bsz:base.objs.size<=s.heap.objs.size
 mS:s.heap.FunFrames base outer
 frf:∀b∈frs outer,H b=none
 hok:HOk P w H s.heap
 bare:AllBare s.gens
def CE(outer:List Env)(P:Program)(w:World)(H:Hp)(s:Shared)(Q:VK)(u:Value)(s':Shared):Prop:=
 ∃v H',s'.os=s.os/\AllBare s'.gens/\Un (frs outer) [] H H' s.heap s'.heap/\HOk P w H' s'.heap/\RelV v u/\Q v H'
def CR(CX:CXT)(outer:List Env)(P:Program)(w:World)(H:Hp)(s:Shared)(Q:VK)(E:XK)(r:Result)(s':Shared):Prop:=
 match r with
 |.ok (.ret u)=>CE outer P w H s Q u s'
 |.ok _=>False
 |.error e=>CX outer H s E e s'
structure aP(P:Program)(w:World)(K:gc)(mg:Str->Option Value)(base:Heap)(CX:CXT)(k:Nat)(f:Addr)(fd:FuncData)(ps:List Str)(sp:Sp):Prop where
 len:∀vs H Q E,sp vs H Q E->vs.length=ps.length
 run:∀(A:Around) (outer:List Env) (s:Shared) (H:Hp) (args:Args) (us:List Value) (vs:List V) (Q:VK) (E:XK),bq k A->Gq P w K mg base A outer s H->BindsTo s fd args (ps.zip us)->Vals vs us->sp vs H Q E ->
  codeAny (model P w) A (.call (.ref f) args) (CR CX outer P w H s Q E) s
section
variable{X:Cx}{uW:List (Addr×Obj)}{σ:St}{H:Hp}{s s':Shared}
theorem Inv.QX(I:Inv X uW σ H s):Gq X.prog X.w X.K X.mg X.base X.A X.stack s H:=
 ⟨I.ok.frames,I.ok.mod,I.bs,S8 I.ok.bsz I.sz,I.stack,I.yJ,I.hok,I.bare⟩
theorem Inv.after{Q:VK}{u:Value}(I:Inv X uW σ H s)(h:CE X.stack X.prog X.w H s Q u s'):EP X uW σ Q u s':=by obtain⟨v,H',os,bare,un,hok,r,q⟩:=h;obtain⟨hh,g,d,t,os'⟩:=s';obtain rfl:os'=s.os:=os;exact⟨v,H',I.call (h':=hh) (g':=g) (d':=d) (t':=t) (ch:=[]) un hok bare (fun b z=>absurd z (by simp)),r,q⟩
end
def jN(sp:Sp)(dvs:List V)(E:XK)(t:TA):TE:=fun σ H Q=>t σ H fun vs H1=>sp (vs++dvs) H1 Q E
def Binds(K:gc)(fd:FuncData)(ps:List Str)(ds:List Value):Prop:=
 ∀(s:Shared) (us:List Value),K.In s.heap->(us++ds).length=ps.length->BindsTo s fd ⟨us,[]⟩ (ps.zip (us++ds))
theorem Binds.all{K:gc}{fd:FuncData}{ps:List Str}(h:∀us:List Value,us.length=ps.length->bindArgs fd ⟨us,[]⟩=pure (ps.zip us)):Binds K fd ps []:=fun s us _ hl=>by rw[Tu]at hl ⊢;exact .of_eq (h us hl)
def Passes(CX:CXT)(X:Cx)(E:XK):Prop:=∀(uW:List (Addr×Obj)) (σ:St) (H:Hp) (s:Shared) (e:Value) (s':Shared),Inv X uW σ H s->CX X.stack H s E e s'->X.xe e s'
section
variable{X:Cx}{CX:CXT}{k:Nat}{f C:Addr}{fd:FuncData}{ps:List Str}{sp:Sp}{dvs:List V}{ds:List Value}{E:XK}{x m:Str}{p pos Pz:Pos}{e o:Expr}{es:List Expr}{ta:TE}{t:TA}
theorem Kw{uW:List (Addr×Obj)}{σ:St}{H:Hp}{s:Shared}{Q:VK}{us:List Value}{vs:List V}(F:aP X.prog X.w X.K X.mg X.base CX k f fd ps sp)(hr:bq k X.A)(hb:Binds X.K fd ps ds)(hd:Vals dvs ds)(hx:Passes CX X E)
  (I:Inv X uW σ H s) (r:Vals vs us) (h:sp (vs++dvs) H Q E):wpAny (model X.prog X.w) X.A (call (.ref f) us) (EP X uW σ Q) X.xe s:=by
 have r2:Vals (vs++dvs) (us++ds):=r.append hd;have hl:(us++ds).length=ps.length:=by rw[<- r2.length];exact F.len _ _ _ _ h
 refine wpAny_call (codeAny_mono (F.run X.A X.stack s H ⟨us,[]⟩ (us++ds) (vs++dvs) Q E hr I.QX (hb s us I.kIn hl) r2 h) fun r s' hq=>?_);cases r with
 |error e=>exact hx uW σ H s e s' I hq
 |ok fl=>
  cases fl with
  |ret u=>exact I.after hq
  |next=>exact Tt hq
  |brk=>exact Tt hq
  |cont=>exact Tt hq
theorem dY(F:aP X.prog X.w X.K X.mg X.base CX k f fd ps sp)(hr:bq k X.A)(hg:Gl X x)(hm:X.mg x=some (.ref f))(hk:TY X.K (.ref f)=true)(hb:Binds X.K fd ps ds)(hd:Vals dvs ds)(hx:Passes CX X E)
  (ha:PA X (e::es) t) (RS:(x == ("__debug__" : Str))=false:=by decide) (he:starEach (e::es) X.env=(false,eval e X.env)::starEach es X.env:=by rfl) (HL:(backTo pos (starEach es X.env)).any (·.1)=false:=by rfl) :
  PE X (.Call (.Name x p) (e::es) [] pos) (jN sp dvs E t):=by
 intro uW s σ H Q I h;refine wpAny_Call_Name_kw (yL I hg hm ?_ RS);refine PySem.W.callWith_K (h₀:=X.base) I.ok.mod.kin hk (thn (ha pos uW s σ H _ I h) fun us s1 ⟨vs,H1,I1,r,q⟩=>⟨I1.kIn,?_⟩) he HL;exact Kw F hr hb hd hx I1 r q
end
section
variable{x:Str}{v:Value}
structure ay(N P:List Str)(sc:Scope):Prop where
 kind:sc.kind=.function
 co:sc.isCoroutine=false
 gen:sc.isGenerator=false
 nd:N.Nodup
 pre:N.take P.length=P
 par:∀x∈P,sc.names.lookup x=some .local\/sc.names.lookup x=some .cell
 Ky:∀y∈sc.names,y.2≠.free
theorem qC{kindOf:Str->Option NameKind}:∀{binds:List (Str×Value)} {m:Str->Option Value},(∀v,(x,v)∉binds)->bindL kindOf binds m x=m x
 |[],_,_=>rfl
 |(n,v)::r,m,h=>by
  unfold bindL;rw[qC fun w hw=>h w (Sy _ hw)];split
  ·have:x≠n:=by rintro rfl;exact h v Sw
   simp[this]
  ·rfl
theorem qD{kindOf:Str->Option NameKind}:∀{binds:List (Str×Value)} {m:Str->Option Value},(∀v,(x,v)∉binds)->bindC kindOf binds m x=m x
 |[],_,_=>rfl
 |(n,v)::r,m,h=>by
  unfold bindC;rw[qD fun w hw=>h w (Sy _ hw)];split
  ·rfl
  ·have:x≠n:=by rintro rfl;exact h v Sw
   simp[this]
theorem qE{kindOf:Str->Option NameKind}:∀{P:List Str} {vs:List Value} {i:Nat} {m:Str->Option Value},P.Nodup->P[i]?=some x->vs[i]?=some v->kindOf x=some .local ->
  bindL kindOf (P.zip vs) m x=some v
 |[],_,_,_,_,h,_,_=>by simp at h
 |_::_,[],_,_,_,_,h,_=>by simp at h
 |p::P,w::vs,0,m,nd,h1,h2,hk=>by simp at h1 h2;subst h1;subst h2;show bindL kindOf ((p,w)::P.zip vs) m p=_;unfold bindL;rw[qC fun v hv=>(SV.mp nd).1 (V0 hv).1,if_pos hk];simp
 |p::P,w::vs,i+1,m,nd,h1,h2,hk=>by show bindL kindOf ((p,w)::P.zip vs) m x=_;unfold bindL;exact qE (i:=i) (SV.mp nd).2 (by simpa using h1) (by simpa using h2) hk
theorem qF{kindOf:Str->Option NameKind}:∀{P:List Str} {vs:List Value} {i:Nat} {m:Str->Option Value},P.Nodup->P[i]?=some x->vs[i]?=some v->kindOf x≠some .local ->
  bindC kindOf (P.zip vs) m x=some v
 |[],_,_,_,_,h,_,_=>by simp at h
 |_::_,[],_,_,_,_,h,_=>by simp at h
 |p::P,w::vs,0,m,nd,h1,h2,hk=>by simp at h1 h2;subst h1;subst h2;show bindC kindOf ((p,w)::P.zip vs) m p=_;unfold bindC;rw[qD fun v hv=>(SV.mp nd).1 (V0 hv).1,if_neg hk];simp
 |p::P,w::vs,i+1,m,nd,h1,h2,hk=>by show bindC kindOf ((p,w)::P.zip vs) m x=_;unfold bindC;exact qF (i:=i) (SV.mp nd).2 (by simpa using h1) (by simpa using h2) hk
noncomputable def start(N:List Str)(vs:List V):St:=vs.map some++Sv (N.length-vs.length) none
noncomputable def AG(CX:CXT)(P:Program)(w:World)(K:gc)(mg:Str->Option Value)(base:Heap)(N:List Str)(qual:Str)(scope:Scope)(f:Addr)(cd:Value)(A:Around)(outer:List Env)(s:Shared)(H:Hp)(E:XK):Cx where
 prog:=P
 w:=w
 K:=K
 mg:=mg
 base:=base
 A:=A.deeper (envOfC qual scope s.heap.objs.size f cd)
 N:=N
 s₀:=s
 H₀:=H
 env:=envOfC qual scope s.heap.objs.size f cd
 outer:=outer
 stack:=envOfC qual scope s.heap.objs.size f cd::outer
 ex:=[]
 calm:=true
 fn:=fun _=>true
 pn:=[]
 xe:=fun e s'=>wpAny (model P w) (A.deeper (envOfC qual scope s.heap.objs.size f cd)) (leaving (envOfC qual scope s.heap.objs.size f cd) e) (fun _ s''=>CX outer H s E e s'') (fun e' s''=>CX outer H s E e' s'') s'
theorem t7{sc:Scope}{n:Nat}(h:sc.names.lookup x=some .cell):∃c,(cellsFrom n sc.names []).lookup x=some c:=by have q:=PySem.W.cellsFrom_some sc.names n [] (.inl h);exact Option.isSome_iff_exists.mp q
theorem AH{CX:CXT}{P:Program}{w:World}{K:gc}{mg:Str->Option Value}{base:Heap}{N ps:List Str}{qual:Str}{scope:Scope}{f:Addr}{cd:Value}{A:Around}{outer:List Env}{s s1:Shared}{H:Hp}{E:XK}{us:List Value}{vs:List V}
  (S:ay N ps scope) (hd:A.handled=none) (e0:Gq P w K mg base A outer s H) (hl:vs.length=ps.length) (r:Vals vs us)
  (x:InCallC s s.heap.objs.size (bindL (envOfC qual scope s.heap.objs.size f cd).kindOf (ps.zip us) fun _=>none) (cellsFrom (s.heap.objs.size+1) scope.names []) (bindC (envOfC qual scope s.heap.objs.size f cd).kindOf (ps.zip us) fun _=>none) s1) :
  Inv (AG CX P w K mg base N qual scope f cd A outer s H E) [] (start N vs) H s1:=by
 have HL:ps.length<=N.length:=by have:=congrArg List.length S.pre;rw[TJ]at this;omega
 obtain⟨h1,tk,rfl,hk⟩:=x.done;have noA:∀b:Addr,b∉(AG CX P w K mg base N qual scope f cd A outer s H E).ex:=fun b z=>absurd (show b∈([]:List Addr) from z) (by simp);refine ⟨⟨e0.mod,S.kind,rfl,rfl,SA _,fun y z c h1 h2=>?_,fun y hy=>?_,fun y c _ h=>?_,fun _=>hd,Around.frames_deeper e0.frames,.inr ⟨rfl,rfl⟩,fun b z=>absurd z (noA b),e0.bs,e0.bsz,fun b _ _=>noA b,fun b z=>absurd z (noA b),e0.mS,e0.frf⟩,
  rfl,e0.bare,Un.kept hk,⟨_,x.toInCall.ns,fun i y v h1 h2 h3=>?_⟩,fun y c h=>⟨_,x.cell y c h⟩,e0.hok.fresh (SA _),fun y c h=>?_,fun p hp=>absurd (show p∈([]:List (Addr×Obj)) from hp) (by simp),e0.hok.kept hk,?_⟩
 ·exact name_of_addr x.apart (PySem.mem_of_lookup h1) (PySem.mem_of_lookup h2)
 ·have hy:scope.names.lookup y=some .cell\/scope.names.lookup y=some .free:=hy;rcases hy with hy | hy
  ·exact t7 hy
  ·exact absurd rfl (S.Ky _ (PySem.mem_of_lookup hy))
 ·exact US (x.above y c (PySem.mem_of_lookup h))
 ·have hi:i<vs.length:=by
   unfold start at h2;by_cases hi:i<vs.length
   ·exact hi
   ·rw[Tc (by simpa using hi)]at h2;rw[Tz]at h2;split at h2<;>cases h2
  have ha:vs[i]?=some v:=by
   unfold start at h2;rw[SM (by simpa using hi),SS]at h2;cases e:vs[i]? with
   |none=>rw[e]at h2;cases h2
   |some a=>rw[e]at h2;cases h2;rfl
  obtain⟨u,hu,rv⟩:=r.get ha;have hp:ps[i]?=some y:=by rw[<- S.pre,UG (by omega)];exact h1
  have ndP:ps.Nodup:=by rw[<- S.pre];exact S.nd.sublist (List.take_sublist _ _)
  refine⟨u,rv,?_⟩;rcases S.par y (UA hp) with k | k
  ·exact .inl ⟨k,qE ndP hp hu k⟩
  ·obtain⟨c,e⟩:=t7 (n:=s.heap.objs.size+1) k;refine .inr ⟨.inl k,c,e,?_⟩;have q:=x.cell y c e;rw[qF ndP hp hu (by show scope.names.lookup y≠_;rw[k];decide)]at q;exact q
 ·exact e0.hok.fresh (US (x.above y c (PySem.mem_of_lookup h)))
 ·unfold start;show _=N.length;rw[SJ,Ss,Ut];omega
theorem NV{CX:CXT}{P:Program}{w:World}{K:gc}{mg:Str->Option Value}{base:Heap}{k:Nat}{f:Addr}{name qual:Str}{params:Arguments}{body:List Stmt}{scope:Scope}{dV kV doc pm cdv ct oc:Value}{an od:Option Addr}
  {osl:Array (Option Value)} {N ps:List Str} {sp:Sp} (lk:K.lookup f=some ⟨oc,od,.func (Tq name qual params body scope dV kV doc pm an cdv ct),osl⟩) (PJ:Vw K cdv qual=true) (S:ay N ps scope)
  (len:∀vs H Q E,sp vs H Q E->vs.length=ps.length)
  (hbody:∀ (A:Around) (outer:List Env) (s:Shared) (H:Hp) (vs:List V) (Q:VK) (E:XK),bq k (A.deeper (envOfC qual scope s.heap.objs.size f cdv))→sp vs H Q E →
   ∃t,PSs (AG CX P w K mg base N qual scope f cdv A outer s H E) body t/\t { nx:=fun _ H'=>Q .non H',rt:=Q } (start N vs) H) :
  aP P w K mg base CX (k+1) f (Tq name qual params body scope dV kV doc pm an cdv ct) ps sp:=by
 refine⟨len,fun A outer s H args us vs Q E hr e0 hb r hsp=>?_⟩;have hl:=len _ _ _ _ hsp;have KX:K.In s.heap:=e0.mod.kin.keeps fun b o e=>(e0.bs b o e).1;have lim:s.heap.NoLimit:=e0.mod.nolimit.keeps fun b o e=>(e0.bs b o e).1;have hkind:∀y∈ps.zip us,scope.names.lookup y.1=some .local\/(scope.names.lookup y.1=some .cell/\((cellsFrom (s.heap.objs.size+1) scope.names []).lookup y.1).isSome=true):=fun⟨n,v⟩ hy=>by
  rcases S.par n (V0 hy).1 with q | q
  ·exact .inl q
  ·exact .inr ⟨q,PySem.W.cellsFrom_some _ _ _ (.inl q)⟩
 refine codeAny_call_function hr.depth (KX _ _ lk) rfl S.co S.gen rfl (PySem.W.codeRec_of KX PJ) (hb _ _ _ _ ?_);refine wpAny_newFunctionEnv_cells S.kind hkind fun env he s1 x=>?_;subst he;refine⟨lim.keeps x.toInCall.keep,codeAny_func ?_⟩;obtain⟨t,ht,hq⟩:=hbody A outer s H vs Q E (hr.deeper _) hsp;have I:Inv (AG CX P w K mg base N qual scope f cdv A outer s H E) [] (start N vs) H s1:=AH S hr.hd e0 hl r x;refine wpAny_mono (ht [] s1 (start N vs) H _ I hq) (fun fl s' hs=>?_) fun e s' hs=>hs;have PF:∀{σ':St} {H':Hp} {v:V} {u:Value},Inv (AG CX P w K mg base N qual scope f cdv A outer s H E) [] σ' H' s'->RelV v u->Q v H'->CE outer P w H s Q u s':=
  fun {σ' H' v u} J rv q=>⟨v,H',J.os,J.bare,J.base,J.hok,rv,q⟩
 cases fl with
 |ret u=>obtain⟨v,σ',H',J,rv,q⟩:=hs;exact PF J rv q
 |next=>obtain⟨σ',H',J,q⟩:=hs;exact PF (v:=V.non) (u:=Value.none) J rfl q
 |brk=>obtain⟨_,_,_,q⟩:=hs;exact Tt q
 |cont=>obtain⟨_,_,_,q⟩:=hs;exact Tt q
end
section
variable{X:Cx}{x:Str}{p pos:Pos}{e:Expr}{es:List Expr}{t:TA}{id T:String}{r:List V->Hp->VK->Prop}
def tCB(r:List V->Hp->VK->Prop)(t:TA):TE:=fun σ H Q=>t σ H fun vs H1=>r vs H1 Q
theorem jO(hc:cg X (.builtin id) r)(hg:Gl X x)(hm:X.mg x=none)(hv:bootBuiltins x=some (.builtin id))(ha:PA X (e::es) t)(hn:x ≠ "__name__" := by decide)(RS:(x == ("__debug__" : Str))=false:=by decide)
  (he:starEach (e::es) X.env=(false,eval e X.env)::starEach es X.env:=by rfl) (HL:(backTo pos (starEach es X.env)).any (·.1)=false:=by rfl):PE X (.Call (.Name x p) (e::es) [] pos) (tCB r t):=by
 intro uW s σ H Q I h;refine wpAny_Call_Name_kw (cY I hg hm hv ?_ hn RS);exact PyProof.Rows.callWith_builtin1 (thn (ha pos uW s σ H _ I h) fun us s1 ⟨vs,H1,I1,r1,q1⟩=>hc uW s1 σ H1 vs us Q I1 r1 q1) he HL
theorem kJ(hc:cg X (.type T) r)(hg:Gl X x)(hm:X.mg x=none)(hv:bootBuiltins x=some (.type T))(ha:PA X (e::es) t)(hn:x ≠ "__name__" := by decide)(RS:(x == ("__debug__" : Str))=false:=by decide)
  (he:starEach (e::es) X.env=(false,eval e X.env)::starEach es X.env:=by rfl) (HL:(backTo pos (starEach es X.env)).any (·.1)=false:=by rfl):PE X (.Call (.Name x p) (e::es) [] pos) (tCB r t):=by
 intro uW s σ H Q I h;refine wpAny_Call_Name_kw (cY I hg hm hv ?_ hn RS);exact Tn (thn (ha pos uW s σ H _ I h) fun us s1 ⟨vs,H1,I1,r1,q1⟩=>hc uW s1 σ H1 vs us Q I1 r1 q1) he HL
end
end L2
namespace HT
open PySem PyProof.Rows
section
variable{prog:Program}{w:World}{A:Around}{E:Value->Shared->Prop}{s:Shared}
section
variable{lo hi:Option Int}{vl vu:Value}
noncomputable def sIx(n d:Nat):Option Int->Nat
 |none=>d
 |some v=>if v<0 then (v+(n:Int)).toNat else min v.toNat n
theorem Kz(n d:Nat)(hd:d<=n)(o:Option Int):sIx n d o<=n:=by
 cases o with
 |none=>exact hd
 |some v=>
  show (if v<0 then (v+(n:Int)).toNat else min v.toNat n)<=n;by_cases hv:v<0
  ·rw[if_pos hv];omega
  ·rw[if_neg hv];exact Nat.min_le_right _ _
theorem yN(v:Int)(n d:Nat):(if v<0 then max (v+(n:Int)) 0 else min v (n:Int))=((sIx n d (some v):Nat):Int):=by
 show (if v<0 then max (v+(n:Int)) 0 else min v (n:Int))=(((if v<0 then (v+(n:Int)).toNat else min v.toNat n):Nat):Int)
 by_cases hv:v<0
 ·simp only[if_pos hv];omega
 ·simp only[if_neg hv];omega
theorem xh(lo hi:Option Int)(n:Nat):U5 lo hi 1 (n:Int)=(((sIx n 0 lo:Nat):Int),((sIx n n hi:Nat):Int)):=by
 have h1:¬((1:Int)<0):=by omega
 unfold U5;simp only[h1,if_false];refine Prod.ext ?_ ?_
 ·cases lo with
  |none=>rfl
  |some v=>exact yN v n 0
 ·cases hi with
  |none=>rfl
  |some v=>exact yN v n n
theorem xj(i j:Nat):UB (i:Int) (j:Int) 1=j-i:=by
 unfold UB;have h1:(1:Int)>0:=by omega
 simp only[h1,if_true,Int.ediv_one];split<;>omega
theorem m5{v:Value}{o:Option Int}{Q:Option Int->Shared->Prop}(p:IsPart v o)(h:Q o s):wpAny (model prog w) A (Builtin.Slice.slicePartIndex v) Q E s:=by
 cases p with
 |none=>exact slicePart_none h
 |int i t=>exact slicePart_int h
theorem eK{sl:Addr}{n:Nat}{Q:Int×Int×Nat->Shared->Prop}(hs:s.heap.IsSliceOf sl vl vu .none)(pl:IsPart vl lo)(pu:IsPart vu hi)
  (h:Q (((sIx n 0 lo:Nat):Int),1,sIx n n hi-sIx n 0 lo) s):wpAny (model prog w) A (Builtin.Slice.sliceApplied (.ref sl) (pure (n:Int))) Q E s:=by
 obtain⟨os,hos,hcs,hds⟩:=id hs;unfold Builtin.Slice.sliceApplied Builtin.Slice.sliceFields;refine wpAny_bind (wpAny_bind (wpAny_field hos hds (x:=vl) rfl (wpAny_bind (wpAny_field hos hds (x:=vu) rfl (wpAny_bind (wpAny_field hos hds (x:=.none) rfl (wpAny_pure ?_)))))));refine wpAny_bind (slicePart_none ?_);show wpAny _ _ (if ((1:Int) == 0)=true then _ else _) _ _ s;rw[if_neg (by decide)];refine wpAny_bind (m5 pl (wpAny_bind (m5 pu (wpAny_bind (wpAny_pure ?_)))));show wpAny _ _ (match U5 lo hi 1 (n:Int) with | (lo,hi)=>pure (lo,(1:Int),UB lo hi 1)) _ _ s;rw[xh lo hi n];show wpAny _ _ (pure (((sIx n 0 lo:Nat):Int),(1:Int),UB ((sIx n 0 lo:Nat):Int) ((sIx n n hi:Nat):Int) 1)) _ _ s;rw[xj];exact wpAny_pure h
theorem B8(xs:Array Value)(i k:Nat):((SH k).filterMap fun(m:Nat)=>xs[((i:Int)+(m:Int)*1).toNat]?).toArray=((xs.toList.drop i).take k).toArray:=by
 have e:(fun(m:Nat)=>xs[((i:Int)+(m:Int)*1).toNat]?)=fun m=>xs[i+m]?:=by
  funext m
  have:((i:Int)+(m:Int)*1).toNat=i+m:=by omega
  rw[this]
 rw[e];have:=pick_run xs i k;rw[List.filterMap_map]at this;have e2:((fun x=>xs[x]?)∘fun x=>i+x)=fun m=>xs[i+m]?:=rfl;rw[e2]at this;rw[this]
theorem jP{t sl:Addr}{items:Array Value}{Q:Value->Shared->Prop}(ht:IsTup s.heap t items)(hs:s.heap.IsSliceOf sl vl vu .none)(pl:IsPart vl lo)(pu:IsPart vu hi)
  (hw:¬(sIx items.size 0 lo=0/\sIx items.size items.size hi=items.size))
  (h:Q (.ref s.heap.objs.size) { s with heap:=s.heap.push { cls:=.type "tuple",data:=.seq ((items.toList.drop (sIx items.size 0 lo)).take (sIx items.size items.size hi-sIx items.size 0 lo)).toArray } })
  (hsz:items.size<=sizeLine):wpAny (model prog w) A (getItem (.ref t) (.ref sl)) Q E s:=by
 have yO:sizeOk (.seq ((items.toList.drop (sIx items.size 0 lo)).take (sIx items.size items.size hi-sIx items.size 0 lo)).toArray):=by show ((items.toList.drop (sIx items.size 0 lo)).take (sIx items.size items.size hi-sIx items.size 0 lo)).toArray.size<=sizeLine;rw[SG,TJ,UH,SN];omega
 have hj:sIx items.size items.size hi<=items.size:=Kz _ _ (SA _) hi;obtain⟨os,hos,hcs,hds⟩:=id hs;have hTs:s.TypeIs (.ref sl) "slice" := ⟨os,hos,hcs⟩
 unfold getItem
 try with_reducible refine wpAny_holding ?_
 first | refine wpAny_bind (wpAny_pure ?_) | skip
 refine wpAny_bind (wpAny_sequenceKey ht.typeIs (by decide) ?_);refine wpAny_bind (wpAny_callSpecial?_slot (name:=U8 "__getitem__") ht.typeIs TR
  (wpAny_call_entry TR ht.typeIs entry_tuple_getitem ?_ (args_tuple_getitem _ _)))
 show wpAny _ _ (Builtin.Tuple.tupleItemsOf (.ref t) >>= _) _ _ s;refine wpAny_bind (tupleItemsOf_ ht ?_);refine wpAny_bind (wpAny_typeOf hTs ?_);rw[if_pos (by decide)];refine wpAny_bind (eK hs pl pu ?_);have hno:¬((((sIx items.size 0 lo:Nat):Int) == 0&&(1:Int) == 1&&(sIx items.size items.size hi-sIx items.size 0 lo) == items.size)=true):=by intro q;rw[SQ,SQ]at q;have q1:((sIx items.size 0 lo:Nat):Int)=0:=eq_of_beq q.1.1;have q2:sIx items.size items.size hi-sIx items.size 0 lo=items.size:=eq_of_beq q.2;exact hw ⟨by omega,by omega⟩
 show wpAny _ _ (if (((sIx items.size 0 lo:Nat):Int) == 0&&(1:Int) == 1&&(sIx items.size items.size hi-sIx items.size 0 lo) == items.size)=true then _ else _) _ _ s;rw[if_neg hno,B8]
 first
  |exact wpAny_bind (m:=UI _) (wpAny_newObj_type (wpAny_pure ⟨_,rfl,wpAny_pure h⟩) yO)
  |exact wpAny_bind (m:=UI _) (wpAny_newObj_type (wpAny_bind (wpAny_pure (wpAny_pure ⟨_,rfl,wpAny_pure h⟩))) yO)
  |exact wpAny_bind (wpAny_bind (m:=UI _) (wpAny_newObj_type (wpAny_pure (wpAny_pure ⟨_,rfl,wpAny_pure h⟩)) yO))
  |exact wpAny_bind (wpAny_bind (m:=UI _) (wpAny_newObj_type (wpAny_pure ⟨_,rfl,wpAny_pure h⟩) yO))
end
end
end HT
namespace L2
open PySem PySem.Spec PyProof.Rows
noncomputable abbrev TO:=St->Hp->(Option Int->Hp->Prop)->Prop
def PO(X:Cx)(e:Option Expr)(t:TO):Prop:=
 ∀(uW:List (Addr×Obj)) (s:Shared) (σ:St) (H:Hp) (Q:Option Int->Hp->Prop),Inv X uW σ H s->t σ H Q ->
  wpAny (model X.prog X.w) X.A (evalPart e X.env) (fun u s'=>∃o H',Inv X uW σ H' s'/\IsPart u o/\Q o H') X.xe s
def rS:TO:=fun _ H Q=>Q none H
def B9(t:TE):TO:=fun σ H Q=>t σ H fun x H1=>∃i,x=.int i/\Q (some i) H1
section
variable{X:Cx}{e:Expr}{te:TE}{lo hi:Option Expr}{tl th:TO}{pos p2:Pos}
theorem Gr:PO X none rS:=by intro uW s σ H Q I h;rw[evalPart_none];exact wpAny_pure ⟨none,H,I,.none,h⟩
theorem Gs(h:PE X e te):PO X (some e) (B9 te):=by intro uW s σ H Q I hw;rw[evalPart_some];refine thn (h uW s σ H _ I hw) fun u s1 ⟨x,H1,I1,r1,q1⟩=>?_;obtain⟨i,rfl,q⟩:=q1;obtain⟨t,rfl⟩:=r1;exact⟨some i,H1,I1,.int i t,q⟩
def SlR(X:Cx)(r:V->Option Int->Option Int->Hp->VK->Prop):Prop:=
 ∀(uW:List (Addr×Obj)) (s:Shared) (σ:St) (H:Hp) (x:V) (v vl vu:Value) (lo hi:Option Int) (sl:Addr) (Q:VK),Inv X uW σ H s->RelV x v->s.heap.IsSliceOf sl vl vu .none->IsPart vl lo->IsPart vu hi->r x lo hi H Q ->
  ∃T id,typeLookup (.type T) "__getitem__" = pure (some (.builtin id))/\s.TypeIs v T/\wpAny (model X.prog X.w) X.A (getItem v (.ref sl)) (EP X uW σ Q) X.xe s
def tSl(r:V->Option Int->Option Int->Hp->VK->Prop)(te:TE)(tl th:TO):TE:=fun σ H Q=>te σ H fun x H1=>tl σ H1 fun l H2=>th σ H2 fun u H3=>r x l u H3 Q
theorem t8{r:V->Option Int->Option Int->Hp->VK->Prop}(hr:SlR X r)(he:PE X e te)(hl:PO X lo tl)(hu:PO X hi th):PE X (.Subscript e (.Slice lo hi none p2) pos) (tSl r te tl th):=by intro uW s σ H Q I h;refine Subscript_ (thn (he uW s σ H _ I h) fun v s1 ⟨x,H1,I1,r1,q1⟩=>?_);refine wpAny_Slice (thn (hl uW s1 σ H1 _ I1 q1) fun vl s2 ⟨l,H2,I2,pl,q2⟩=>thn (hu uW s2 σ H2 _ I2 q2) fun vu s3 ⟨u,H3,I3,pu,q3⟩=>?_);rw[evalPart_none];refine wpAny_pure ?_;have I4:Inv X uW σ H3 { s3 with heap:=s3.heap.push { cls:=.type "slice",data:=.fields #[vl,vu,.none] } }:=I3.kept (t':=s3.toks) fun b ob q=>Sz _ q;obtain⟨T,id,hT,ht,hg⟩:=hr uW { s3 with heap:=s3.heap.push { cls:=.type "slice",data:=.fields #[vl,vu,.none] } } σ H3 x v vl vu l u s3.heap.objs.size Q I4 r1 (Heap.IsSliceOf.new ..) pl pu q3;show wpAny (model X.prog X.w) X.A (subscriptTail e (.Slice lo hi none p2) v (.ref s3.heap.objs.size)) (EP X uW σ Q) X.xe { s3 with heap:=s3.heap.push { cls:=.type "slice",data:=.fields #[vl,vu,.none] } };exact tail_any (ops:=[.ref s3.heap.objs.size,v]) ht hT hg (by with_unfolding_all rfl)
noncomputable def m6(xs:List V)(lo hi:Option Int):List V:=(xs.drop (HT.sIx xs.length 0 lo)).take (HT.sIx xs.length xs.length hi-HT.sIx xs.length 0 lo)
theorem lF(xs:List V)(lo hi:Option Int):(m6 xs lo hi).length<=xs.length:=by unfold m6;rw[TJ,UH];omega
def QY(K:gc):V->Option Int->Option Int->Hp->VK->Prop:=fun x lo hi H Q=>∃a xs,x=.ref a/\SqT K H a xs /\
 ¬(HT.sIx xs.length 0 lo=0/\HT.sIx xs.length xs.length hi=xs.length)/\∀p,H p=none->Q (.ref p) (upd H p (.tup (m6 xs lo hi)))
theorem KA:SlR X (QY X.K):=by
 intro uW s σ H x v vl vu lo hi sl Q I rx hs pl pu h;obtain⟨a,xs,rfl,hx,hw,q⟩:=h;cases rx;obtain⟨its,r,ht,hz⟩:=I.tuple hx;have Fd:its.toArray.size=xs.length:=by rw[SG];exact r.length.symm
 refine⟨"tuple",_,TR.lookup,ht.typeIs,?_⟩;refine HT.jP ht hs pl pu (by rw[Fd];exact hw) ?_ (by rw[Fd];exact hz);rw[Fd];refine⟨.ref s.heap.objs.size,_,I.laid (t':=s.toks) (o:=.tup (m6 xs lo hi)) (fun b ob q=>Sz _ q) (SA _) ?_,rfl,q _ (I.hok.fresh (SA _))⟩;exact⟨S8 (lF xs lo hi) hz,_,(r.drop (HT.sIx xs.length 0 lo)).take (HT.sIx xs.length xs.length hi-HT.sIx xs.length 0 lo),IsTup.new _ _⟩
end
noncomputable def ixN(n:Nat)(i:Int):Option Nat:=if 0<=i then (if i<n then some i.toNat else none) else if -(n:Int)<=i then some (i+n).toNat else none
noncomputable def atI{α:Type}(xs:List α)(i:Int):Option α:=(ixN xs.length i).bind fun j=>xs[j]?
theorem yP{n:Nat}{i:Int}{j:Nat}(h:ixN n i=some j):seqIndex? i n=some j/\j<n/\-(n:Int)<=i/\i<n:=by
 unfold ixN at h;by_cases h0:0<=i
 ·rw[if_pos h0]at h;by_cases h1:i<n
  ·rw[if_pos h1]at h;have e:i.toNat=j:=Option.some.inj h;exact⟨by rw[seqIndex_of h0 h1,e],by omega,by omega,h1⟩
  ·rw[if_neg h1]at h;cases h
 ·rw[if_neg h0]at h;by_cases h1:-(n:Int)<=i
  ·rw[if_pos h1]at h;have e:(i+n).toNat=j:=Option.some.inj h;exact⟨by rw[seqIndex_neg (by omega) h1,e],by omega,h1,by omega⟩
  ·rw[if_neg h1]at h;cases h
theorem yQ{α:Type}{xs:List α}{i:Int}{v:α}(h:atI xs i=some v):∃j,seqIndex? i xs.length=some j/\xs[j]?=some v/\j<xs.length/\-(xs.length:Int)<=i/\i<xs.length:=by
 unfold atI at h;cases e:ixN xs.length i with
 |none=>rw[e]at h;cases h
 |some j=>rw[e]at h;obtain⟨h1,h2,h3,h4⟩:=yP e;exact⟨j,h1,h,h2,h3,h4⟩
def fh(b:Expr):Prop:=∀o i,subscripted b false o i=operate [o,i] (getItem o i)
def IxR(X:Cx)(r:R2):Prop:=
 ∀(value slice:Expr) (uW:List (Addr×Obj)) (s:Shared) (σ:St) (H:Hp) (x y:V) (v u:Value) (Q:VK),Inv X uW σ H s->RelV x v->RelV y u->r x y H Q ->
  subscripted slice false v u=operate [v,u] (getItem v u)->wpAny (model X.prog X.w) X.A (subscriptTail value slice v u) (EP X uW σ Q) X.xe s
def MtR(X:Cx)(id:String)(r:V->List V->Hp->VK->Prop):Prop:=
 ∀(uW:List (Addr×Obj)) (s:Shared) (σ:St) (H:Hp) (x:V) (xs:List V) (v:Value) (us:List Value) (Q:VK),Inv X uW σ H s->RelV x v->Vals xs us->r x xs H Q ->
  wpAny (model X.prog X.w) X.A (call (.builtin id) (v::us)) (EP X uW σ Q) X.xe s
section
variable{X:Cx}{a b:Expr}{ta tb:TE}{pos:Pos}
section
variable{uW:List (Addr×Obj)}{s:Shared}{σ:St}{H:Hp}
theorem IxR.or{r r':R2}(h:IxR X r)(h':IxR X r'):IxR X (fun x y H Q=>r x y H Q\/r' x y H Q):=by
 intro value slice uW s σ H x y v u Q I rx ry q hs;rcases q with q | q
 ·exact h value slice uW s σ H x y v u Q I rx ry q hs
 ·exact h' value slice uW s σ H x y v u Q I rx ry q hs
theorem qG{r:R2}(hr:IxR X r)(ha:PE X a ta)(hb:PE X b tb)(hs:fh b):PE X (.Subscript a b pos) (tOp r ta tb):=by intro uW s σ H Q I h;exact Subscript_ (Km ha hb I h fun v u s2 x y H2 I2 rx ry q=>hr a b uW s2 σ H2 x y v u Q I2 rx ry q (hs _ _))
def KC(K:gc):R2:=fun x y H Q=>∃p xs i v,x=.ref p/\y=.int i/\SqL K H p xs/\atI xs i=some v/\Q v H
def AI(K:gc):R2:=fun x y H Q=>∃p xs i v,x=.ref p/\y=.int i/\SqT K H p xs/\atI xs i=some v/\Q v H
theorem yR:IxR X (KC X.K):=by
 intro value slice uW s σ H x y v u Q I rx ry h hs;obtain⟨p,xs,i,z,rfl,rfl,hq,he,q⟩:=h;cases rx;obtain⟨t,rfl⟩:=ry;obtain⟨its,r,pl,hz⟩:=I.list hq;obtain⟨j,h1,h2,h3,h4,h5⟩:=yQ he;obtain⟨w,ew,rw'⟩:=r.get h2;have hl:=r.length;have hn:=mZ;have PF:EP X uW σ Q w s:=⟨z,H,I,rw',q⟩
 by_cases h0:0<=i
 ·have hj:i.toNat=j:=by
   rw[seqIndex_of h0 h5]at h1;exact Option.some.inj h1
  exact item_listR pl.isList h0 (by omega) (by rw[hj];simpa using ew) PF hs
 ·have hj:(i+(its.toArray.size:Int)).toNat=j:=by
   rw[seqIndex_neg (by omega) h4]at h1;rw[SG,<- hl];exact Option.some.inj h1
  exact subscriptTail_builtinR (x:=w) pl.isList.typeIs slot_list_getitem.lookup
   (wpAny_getItem_list_neg (Q:=fun r s'=>r=w/\EP X uW σ Q r s') pl.isList (by omega) (by rw[SG]<;>omega) (by omega) (by rw[hj];simpa using ew) ⟨rfl,PF⟩) hs
theorem m7:IxR X (AI X.K):=by
 intro value slice uW s σ H x y v u Q I rx ry h hs;obtain⟨p,xs,i,z,rfl,rfl,hq,he,q⟩:=h;cases rx;obtain⟨t,rfl⟩:=ry;obtain⟨its,r,pl,hz⟩:=I.tuple hq;obtain⟨j,h1,h2,h3,h4,h5⟩:=yQ he;obtain⟨w,ew,rw'⟩:=r.get h2;have hl:=r.length;have hn:=mZ;have PF:EP X uW σ Q w s:=⟨z,H,I,rw',q⟩
 exact subscriptTail_builtinR (x:=w) pl.typeIs slot_tuple_getitem.lookup
  (getItem_tuple (j:=j) (Q:=fun r s'=>r=w/\EP X uW σ Q r s') pl (by omega) (by omega) (by rw[SG,<- hl];exact h1) (by simpa using ew) ⟨rfl,PF⟩) hs
theorem xm(its:List Value)(n j:Nat)(u:Value):Vd (·.setIfInBounds j u) { cls:=.type "list",data:=.seq its.toArray n }={ cls:=.type "list",data:=.seq (its.set j u).toArray n }:=by simp[Vd]
theorem Inv.lst{uW:List (Addr×Obj)}{σ:St}{H:Hp}{s:Shared}{p:Addr}{xs:List V}(I:Inv X uW σ H s)(h:H p=some (.lst xs)) :
  ∃(its:List Value) (n:Nat),Vals xs its/\s.heap.get? p=some { cls:=.type "list",data:=.seq its.toArray n }/\xs.length<=sizeLine:=by
 obtain⟨z,its,n,r,e⟩:=I.hok p _ h;exact⟨its,n,r,e,z⟩
theorem Inv.KD{p:Addr}{xs ys:List V}{its its':List Value}{n n':Nat}{f:Obj->Obj}(I:Inv X uW σ H s)(h:H p=some (.lst xs))
  (ho:s.heap.get? p=some { cls:=.type "list",data:=.seq its.toArray n }) (hf:f { cls:=.type "list",data:=.seq its.toArray n }={ cls:=.type "list",data:=.seq its'.toArray n' }) (r:Vals ys its') (hz:ys.length<=sizeLine) (t:Nat) :
  Inv X uW σ (upd H p (.lst ys)) { s with heap:=s.heap.update p f,toks:=t }:=by
 have e:(s.heap.update p f).get? p=some { cls:=.type "list",data:=.seq its'.toArray n' }:=by rw[Uu f ho (by rw[hf]<;>rfl),hf]
 refine I.write (x:=p) (e:=p) (by rw[h];trivial) (.inl rfl) (fun b u hb q=>(Vh _ _ (Ne.symm hb)).trans q) ⟨_,e⟩ ?_;exact⟨hz,its',n',r,e⟩
def t9:V->V->V->Hp->(Hp->Prop)->Prop:=fun o i v H Q=>∃p xs k j,o=.ref p/\i=.int k/\H p=some (.lst xs)/\ixN xs.length k=some j/\Q (upd H p (.lst (xs.set j v)))
theorem set_list:NL X t9:=by
 intro uW s σ H o i v ov iv u Q I ro ri rv h;obtain⟨p,xs,k,j,rfl,rfl,hp,hj,q⟩:=h;cases ro;obtain⟨t,rfl⟩:=ri;obtain⟨its,n,r,ho,hz⟩:=I.lst hp;obtain⟨h1,h2,h3,h4⟩:=yP hj;have hl:=r.length;have hn:=mZ;have I':Inv X uW σ (upd H p (.lst (xs.set j v))) { s with heap:=s.heap.update p (Vd (·.setIfInBounds j u)) }:=
  I.KD hp ho (xm its n j u) (r.set rv j) (by rw[Td];exact hz) s.toks
 by_cases h0:0<=k
 ·have hk:k.toNat=j:=by
   rw[seqIndex_of h0 h4]at h1;exact Option.some.inj h1
  exact PySem.W.ki_setAt ho h0 (by omega) (by rw[SG,<- hl];exact h4) (by rw[hk];exact⟨_,I',q⟩)
 ·have hk:(k+(its.toArray.size:Int)).toNat=j:=by
   rw[seqIndex_neg (by omega) h3]at h1;rw[SG,<- hl];exact Option.some.inj h1
  exact PySem.W.ki_setBack ho (by omega) (by rw[SG,<- hl];exact h3) (by omega) (by rw[hk];exact⟨_,I',q⟩)
theorem rT(lo hi:Option Int)(n:Nat):(sliceBounds lo hi none n).1=((HT.sIx n 0 lo:Nat):Int)/\(sliceBounds lo hi none n).2.1=((HT.sIx n n hi:Nat):Int)/\(sliceBounds lo hi none n).2.2=1:=by
 refine⟨?_,?_,rfl⟩
 ·cases lo with
  |none=>simp[sliceBounds,HT.sIx]
  |some i=>
   simp only[sliceBounds,HT.sIx,Option.getD_none,show (1:Int)>0 by decide,if_true];by_cases h:i<0
   ·simp only[h,if_true]<;>omega
   ·simp only[h,if_false]<;>omega
 ·cases hi with
  |none=>simp[sliceBounds,HT.sIx]
  |some i=>
   simp only[sliceBounds,HT.sIx,Option.getD_none,show (1:Int)>0 by decide,if_true];by_cases h:i<0
   ·simp only[h,if_true]<;>omega
   ·simp only[h,if_false]<;>omega
theorem qo(its:List Value)(lo hi:Option Int):slicePick its.toArray lo hi none=((its.drop (HT.sIx its.length 0 lo)).take (HT.sIx its.length its.length hi-HT.sIx its.length 0 lo)).toArray:=by obtain⟨h1,h2,h3⟩:=rT lo hi its.toArray.size;unfold slicePick;rw[h1,h2,h3];simp only[sliceRange_one,pick_run,SG]<;>rfl
def NW(K:gc):V->Option Int->Option Int->Hp->VK->Prop:=fun x lo hi H Q=>∃a xs,x=.ref a/\SqL K H a xs/\∀p,H p=none->Q (.ref p) (upd H p (.lst (m6 xs lo hi)))
theorem Gu:SlR X (NW X.K):=by intro uW s σ H x v vl vu lo hi sl Q I rx hs pl pu h;obtain⟨a,xs,rfl,hx,q⟩:=h;cases rx;obtain⟨its,r,ht,hz⟩:=I.list hx;have Fd:=r.length;refine⟨"list",_,slot_list_getitem.lookup,ht.isList.typeIs,?_⟩;refine wpAny_getItem_list_slice ht.isList hs pl pu .none (by simp) ?_ (by rw[SG]<;>omega);rw[qo,<- Fd];refine⟨.ref s.heap.objs.size,_,I.laid (t':=s.toks) (o:=.lst (m6 xs lo hi)) (fun b ob q=>Sz _ q) (SA _) ?_,rfl,q _ (I.hok.fresh (SA _))⟩;exact⟨S8 (lF xs lo hi) hz,_,0,(r.drop (HT.sIx xs.length 0 lo)).take (HT.sIx xs.length xs.length hi-HT.sIx xs.length 0 lo),S2 _ rfl⟩
theorem rU:cg X (.builtin "len") (fun xs H Q=>∃p ys,xs=[.ref p]/\(SqL X.K H p ys\/SqT X.K H p ys)/\Q (.int ys.length) H):=by
 intro uW s σ H xs us Q I r h;obtain⟨p,ys,rfl,hq,q⟩:=h;obtain⟨u,rfl,rx⟩:=vals1 r;cases rx;have hn:=mZ;rcases hq with hq | hq
 ·obtain⟨its,r',pl,hz⟩:=I.list hq;have Fd:=r'.length;exact Calls.call_len_list pl.isList (by simp only[SG]<;>omega) ⟨.int ys.length,H,I.tok _,⟨s.toks+1,by rw[SG,Fd]⟩,q⟩
 ·obtain⟨its,r',pl,hz⟩:=I.tuple hq;have Fd:=r'.length;exact len_tuple pl (by simp only[SG]<;>omega) ⟨.int ys.length,H,I.tok _,⟨s.toks+1,by rw[SG,Fd]⟩,q⟩
theorem rV:cg X (.type "list") (fun xs H Q=>∃p ys,xs=[.ref p]/\(SqL X.K H p ys\/SqT X.K H p ys)/\∀l,H l=none->Q (.ref l) (upd H l (.lst ys))):=by
 intro uW s σ H xs us Q I r h;obtain⟨p,ys,rfl,hq,q⟩:=h;obtain⟨u,rfl,rx⟩:=vals1 r;cases rx;have PF:∀(its:List Value),Vals ys its->ys.length<=sizeLine->∀(h':Heap) (c':Nat),(∀b o',s.heap.get? b=some o'->h'.get? b=some o') ->
   h'.get? s.heap.objs.size=some { cls:=.type "list",dict:=none,data:=.seq its.toArray c',slots:=#[] }->EP X uW σ Q (.ref s.heap.objs.size) { s with heap:=h' }:=fun its r' hz h' c' kp e=>
  ⟨.ref s.heap.objs.size,_,I.laid (t':=s.toks) kp (SA _) (show aT X.prog X.w _ h' _ (.lst ys) from ⟨hz,its,c',r',e⟩),rfl,q _ (I.hok.fresh (SA _))⟩
 rcases hq with hq | hq
 ·obtain⟨its,r',pl,hz⟩:=I.list hq;have Fd:=r'.length;obtain⟨o,ho,hc,n,hd⟩:=pl.isList;exact call_list_seq p (.inl rfl) ho hc hd (fun h' c' kp e=>PF its r' hz h' c' kp e) (by simp only[SG]<;>omega)
 ·obtain⟨its,r',pl,hz⟩:=I.tuple hq;have Fd:=r'.length;obtain⟨o,ho,hc,n,hd⟩:=pl;exact call_list_seq p (.inr rfl) ho hc hd (fun h' c' kp e=>PF its r' hz h' c' kp e) (by simp only[SG]<;>omega)
theorem qp:cg X (.type "tuple") (fun xs H Q=>∃p ys,xs=[.ref p]/\((SqL X.K H p ys/\∀l,H l=none->Q (.ref l) (upd H l (.tup ys)))\/(SqT X.K H p ys/\Q (.ref p) H))):=by
 intro uW s σ H xs us Q I r h;obtain⟨p,ys,rfl,h⟩:=h;obtain⟨u,rfl,rx⟩:=vals1 r;cases rx;rcases h with⟨hq,q⟩ | ⟨hq,q⟩
 ·obtain⟨its,r',pl,hz⟩:=I.list hq;have Fd:=r'.length;refine call_tuple_list pl.isList (fun h' kp=>?_) (by simp only[SG]<;>omega);have I1:Inv X uW σ H { s with heap:=h' }:=I.kept (t':=s.toks) kp;have I2:Inv X uW σ (upd H h'.objs.size (.tup ys)) { s with heap:=h'.push { cls:=.type "tuple",data:=.seq its.toArray } }:=
   I1.laid (t':=s.toks) (fun b o e=>Sz _ e) (SA _) (show aT X.prog X.w _ _ _ (.tup ys) from ⟨hz,its,r',IsTup.new _ _⟩)
  exact⟨.ref h'.objs.size,_,I2,rfl,q _ (I1.hok.fresh (SA _))⟩
 ·obtain⟨its,r',pl,hz⟩:=I.tuple hq;exact call_tuple_same pl ⟨.ref p,H,I,rfl,q⟩
def tyV(K:gc)(T:String)(x:V)(H:Hp):Prop:=match x with
 |.str _=>T = "str"
 |.int _=>T = "int"
 |.ref p=>(T = "list" /\ ∃xs,SqL K H p xs)\/(T = "tuple" /\ ∃o,K.lookup p=some o/\o.cls=.type "tuple" /\ o.dict=none) \/
   (T = "dict" /\ ((∃kvs,H p=some (.dK kvs))\/∃kvs,H p=some (.dT kvs)))\/(T = "set" /\ ∃S n,H p=some (.set S n))
 |_=>False
theorem B_{T:String}{x:V}{v:Value}(I:Inv X uW σ H s)(r:RelV x v)(ty:tyV X.K T x H) :
  s.TypeIs v T/\∀a,v=.ref a->∃ob,s.heap.get? a=some ob/\ob.dict=none:=by
 cases x with
 |str z=>obtain⟨t,rfl⟩:=r;cases (show T = "str" from ty);exact⟨typeIs_str s z t,fun _ e=>nomatch e⟩
 |int i=>obtain⟨t,rfl⟩:=r;cases (show T = "int" from ty);exact⟨typeIs_int s i t,fun _ e=>nomatch e⟩
 |ref p=>
  cases r;rcases ty with⟨rfl,xs,hq⟩ | ⟨rfl,o,hk,hc,hd⟩ | ⟨rfl,hk⟩ | ⟨rfl,S,n,hk⟩
  ·obtain⟨its,_,pl,_⟩:=I.list hq;refine⟨pl.isList.typeIs,fun a e=>?_⟩;cases e;obtain⟨o,n,e,c,hd,_⟩:=pl;exact⟨o,e,hd⟩
  ·refine⟨⟨o,I.kIn p o hk,hc⟩,fun a e=>?_⟩;cases e;exact⟨o,I.kIn _ o hk,hd⟩
  ·have z:∃o,s.heap.get? p=some o/\o.ExactDict:=by
    rcases hk with⟨kvs,hk⟩ | ⟨kvs,hk⟩
    ·obtain⟨_,_,_,_,o,_,_,e,ex,_⟩:=I.hok p _ hk;exact⟨o,e,ex⟩
    ·obtain⟨_,_,_,_,o,_,_,e,ex,_⟩:=I.hok p _ hk;exact⟨o,e,ex⟩
   obtain⟨o,e,ex⟩:=z;refine⟨⟨o,e,ex.1⟩,fun a e2=>?_⟩;cases e2;exact⟨o,e,ex.2.1⟩
  ·obtain⟨o,_,_,_,e,ex,_⟩:=I.hok p _ hk;refine⟨⟨o,e,ex.1⟩,fun a e2=>?_⟩;cases e2;exact⟨o,e,ex.2.1⟩
 |_=>exact Tt ty
def KG(K:gc)(T:String)(r:V->List V->Hp->VK->Prop)(to:TE):TE:=fun σ H Q=>to σ H fun x H1=>tyV K T x H1/\r x [] H1 Q
def tBM(K:gc)(T:String)(r:V->List V->Hp->VK->Prop)(to:TE)(t:TA):TE:=fun σ H Q=>to σ H fun x H1=>tyV K T x H1/\t σ H1 fun xs H2=>r x xs H2 Q
variable{o e:Expr}{es:List Expr}{to:TE}{t:TA}{name:Str}{Pz cpos:Pos}{T id:String}{r:V->List V->Hp->VK->Prop}
theorem Ca(pa:PlainAttrs T)(slot:Slot T name id)(hty:typeOf (.builtin id)=pure (.type "method_descriptor"))(hm:MtR X id r)(ho:PE X o to)
  (Mg:attributeBase o name X.env (eval o X.env)=eval o X.env:=by rfl) (Ih:(Pz.endLine == cpos.line)=true:=by rfl):PE X (.Call (.Attribute o name Pz) [] [] cpos) (KG X.K T r to):=by
 intro uW s σ H Q I h;refine wpAny_Call_method0_late Mg Ih (thn (ho uW s σ H _ I h) fun v s1 ⟨x,H1,I1,r1,ty,q1⟩=>?_);obtain⟨h1,h2⟩:=B_ I1 r1 ty;exact⟨T,id,pa,slot,hty,h1,h2,UO rfl (PySem.evalArgs_none (hm uW s1 σ H1 x [] v [] Q I1 r1 .nil q1))⟩
theorem t_(pa:PlainAttrs T)(slot:Slot T name id)(hty:typeOf (.builtin id)=pure (.type "method_descriptor"))(hm:MtR X id r)(ho:PE X o to)(ha:PA X (e::es) t)
  (Mg:attributeBase o name X.env (eval o X.env)=eval o X.env:=by rfl)
  (hfew:((backTo cpos (starEach (e::es) X.env)).all (fun x=>!x.1)&&(backToKw cpos (keywordEach [] X.env)).all (fun x=>x.1.isSome)
   && decide ((e::es).length+([]:List Keyword).length+(if ([]:List Keyword).isEmpty then 0 else 1)<30))=true:=by rfl)
  (Ih:(Pz.endLine == cpos.line)=true:=by rfl) (hs:starEach (e::es) X.env=(false,eval e X.env)::starEach es X.env:=by rfl) (Py:(backTo cpos (starEach es X.env)).any (·.1)=false:=by rfl) :
  PE X (.Call (.Attribute o name Pz) (e::es) [] cpos) (tBM X.K T r to t):=by
 intro uW s σ H Q I h;refine wpAny_Call_method_late Mg hfew Ih rfl (thn (ho uW s σ H _ I h) fun v s1 ⟨x,H1,I1,r1,ty,q1⟩=>?_);obtain⟨h1,h2⟩:=B_ I1 r1 ty;refine⟨T,id,pa,slot,hty,h1,h2,?_⟩;have hA:=ha cpos uW s1 σ H1 _ I1 q1;rw[hs]at hA ⊢;refine UO (by show (false||(backTo cpos (starEach es X.env)).any (·.1))=false;rw[Py]<;>rfl) (Vm ?_);exact thn hA fun us s2 ⟨vs,H2,I2,r2,q2⟩=>hm uW s2 σ H2 x vs v us Q I2 r1 r2 q2
end
end
def MtM(X:Cx)(id:String)(r:V->List V->Hp->VK->Prop):Prop:=
 ∀(uW:List (Addr×Obj)) (s:Shared) (σ:St) (H:Hp) (x:V) (xs:List V) (v:Value) (us:List Value) (Q:VK),Inv X uW σ H s->RelV x v->Vals xs us->r x xs H Q ->
  wpAny (model X.prog X.w) X.A (call (.builtin id) (v::us)) (EP X uW σ Q) X.xe s
theorem Vals.one:∀{x:V} {us:List Value},Vals [x] us->∃u,us=[u]/\RelV x u
 |_,_,.cons r .nil=>⟨_,rfl,r⟩
theorem Vals.zero:∀{us:List Value},Vals [] us->us=[]
 |_,.nil=>rfl
theorem Vals.eraseIdx:∀{xs:List V} {us:List Value} (i:Nat),Vals xs us->Vals (xs.eraseIdx i) (us.eraseIdx i)
 |_,_,_,.nil=>.nil
 |_,_,0,.cons _ t=>t
 |_,_,i+1,.cons r t=>.cons r (Vals.eraseIdx i t)
theorem Vals.rep{xs:List V}{us:List Value}(h:Vals xs us):∀k:Nat,Vals (Sv k xs).flatten (Sv k us).flatten
 |0=>.nil
 |k+1=>by rw[Ug,Ug,TF,TF];exact Vals.append h (Vals.rep h k)
theorem qH{α:Type}:∀(l:List α) (i:Nat),(l.eraseIdx i).length<=l.length
 |[],_=>SA _
 |_::_,0=>Vy _
 |_::r,i+1=>Nat.succ_le_succ (qH r i)
theorem foldl_rep(its:List Value):∀(k:Nat) (En:List Value),
  Wu (fun x1 x2=>x1++x2) En.toArray (Sv k its.toArray)=(En++(Sv k its).flatten).toArray
 |0,En=>by simp
 |k+1,En=>by
  have e:En.toArray++its.toArray=(En++its).toArray:=by simp
  have e2:(En++its)++(Sv k its).flatten=En++(Sv (k+1) its).flatten:=by rw[Ug,TF,Uy]
  rw[<- e2,<- foldl_rep its k (En++its),<- e,Ug,V1]
section
variable{X:Cx}{uW:List (Addr×Obj)}{σ:St}{H:Hp}{s:Shared}{l b:Addr}{xs ys zs:List V}
theorem Inv.Gv{its its':List Value}{n:Nat}{f:Array Value->Array Value}{t':Nat}(I:Inv X uW σ H s)(hH:H l=some (.lst xs))
  (e:s.heap.get? l=some { cls:=.type "list",data:=.seq its.toArray n }) (hf:f its.toArray=its'.toArray) (hv:Vals ys its') (hz:ys.length<=sizeLine) :
  Inv X uW σ (upd H l (.lst ys)) { s with heap:=s.heap.update l (Vd f),toks:=t' }:=by
 have q:=PySem.IsL.update e f;rw[hf]at q;refine I.write (x:=l) (e:=l) (by rw[hH];exact trivial) (.inl rfl) (fun b' u hb hu=>(Vh s.heap (Vd f) (Ne.symm hb)).trans hu) ⟨_,q⟩ ?_;exact⟨hz,its',_,hv,q⟩
theorem Inv.KH{its:List Value}{t':Nat}(I:Inv X uW σ H s)(hv:Vals ys its)(hz:ys.length<=sizeLine) :
  Inv X uW σ (upd H s.heap.objs.size (.lst ys)) { s with heap:=s.heap.push { cls:=.type "list",data:=.seq its.toArray },toks:=t' }:=
 I.laid (fun _ _ q=>Sz _ q) (SA _) ⟨hz,its,0,hv,S2 _ rfl⟩
theorem Inv.fresh(I:Inv X uW σ H s):H s.heap.objs.size=none:=I.hok.fresh (SA _)
theorem Inv.Gw(I:Inv X uW σ H s)(hH:H l=some (.lst xs)):xs.length<=sizeLine/\∃(its:List Value) (n:Nat),Vals xs its/\xs.length=its.length/\s.heap.get? l=some { cls:=.type "list",data:=.seq its.toArray n }:=by obtain⟨z,its,n,r,e⟩:=I.hok l _ hH;exact⟨z,its,n,r,r.length,e⟩
theorem ua{n:Nat}(h:n<=sizeLine):UJ n=false:=by unfold UJ;exact decide_eq_false (by omega)
end
section
variable{X:Cx}
def mF:V->List V->Hp->VK->Prop:=fun x vs H Q=>∃l xs y,x=.ref l/\vs=[y]/\H l=some (.lst xs)/\xs.length<sizeLine/\Q .non (upd H l (.lst (xs++[y])))
theorem gO:MtM X "list.append" mF:=by intro uW s σ H x vs v us Q I rx rv h;obtain⟨l,xs,y,rfl,rfl,hH,hz,q⟩:=h;cases rx;obtain⟨u,rfl,ru⟩:=rv.one;obtain⟨z,its,n,r,hl,e⟩:=I.Gw hH;refine call_meets F.slot_list_append ⟨_,e,rfl⟩ F.entry_list_append (F.args_list_append_2 _ _) (PySem.list_append l its.toArray n u (by rw[SG];omega)) ⟨e,?_⟩;refine⟨.non,_,I.Gv (its':=its++[u]) hH e (by simp) (r.append (.cons ru .nil)) ?_,rfl,q⟩;rw[SJ,Uv];omega
def Cb:V->List V->Hp->VK->Prop:=fun x vs H Q=>∃l xs i k y,x=.ref l/\vs=[.int i]/\H l=some (.lst xs)/\-(2 ^ 63)<=i/\i<2 ^ 63/\seqIndex? i xs.length=some k/\xs[k]?=some y/\Q y (upd H l (.lst (xs.eraseIdx k)))
theorem Cc:MtM X "list.pop" Cb:=by
 intro uW s σ H x vs v us Q I rx rv h;obtain⟨l,xs,i,k,y,rfl,rfl,hH,h1,h2,hk,hy,q⟩:=h;cases rx;obtain⟨u,rfl,ru⟩:=rv.one;obtain⟨t,rfl⟩:=ru;obtain⟨z,its,n,r,hl,e⟩:=I.Gw hH;obtain⟨w,hw,rw'⟩:=r.get hy;refine call_meets F.slot_list_pop ⟨_,e,rfl⟩ F.entry_list_pop (F.args_list_pop_2 _ _)
  (MeetsSeq.list_pop_at l its.toArray n i t k w (fitsIndex_both h1 h2) (by rw[SG,<- hl];exact hk) (by rw[<- TZ];exact hw) (by rw[SG];omega)) ⟨e,?_⟩
 refine⟨y,_,I.Gv (its':=its.eraseIdx k) hH e ?_ (r.eraseIdx k) ?_,rw',q⟩
 ·show its.toArray.eraseIdxIfInBounds k=(its.eraseIdx k).toArray;rw[List.eraseIdxIfInBounds_toArray]
 ·have:=qH xs k;omega
def xq:V->List V->Hp->VK->Prop:=fun x vs H Q=>∃l xs,x=.ref l/\vs=[]/\H l=some (.lst xs)/\Q .non (upd H l (.lst []))
theorem uc:MtM X "list.clear" xq:=by intro uW s σ H x vs v us Q I rx rv h;obtain⟨l,xs,rfl,rfl,hH,q⟩:=h;cases rx;have hus:=rv.zero;subst hus;obtain⟨z,its,n,r,hl,e⟩:=I.Gw hH;refine call_meets F.slot_list_clear ⟨_,e,rfl⟩ F.entry_list_clear (F.args_list_clear_1 _) (AutoSeq1.list_clear_list_0 l its.toArray n (by rw[SG];omega)) ⟨e,?_⟩;exact⟨.non,_,I.Gv (its':=[]) (ys:=[]) hH e rfl .nil (S6 _),rfl,q⟩
theorem len_rep{α:Type}(xs:List α)(k:Nat):(Sv k xs).flatten.length=k*xs.length:=by
 induction k with
 |zero=>simp
 |succ k ih=>rw[Ug,TF,SJ,ih,Nat.succ_mul,Nat.add_comm]
end
section
variable{prog:Program}{w:World}{A:Around}{E:Value->Shared->Prop}{s:Shared}
set_option maxRecDepth 100000 in
end
end L2
namespace Att
open PySem PySem.W PySem.Calls PyProof.Rows
theorem mq{P:Params}{h:Heap}:∀(ns:List Int) (vs:List Value),WellAll P h vs (ns.map WData.int)->IntsAre vs ns:=by
 intro ns
 induction ns with
 |nil=>intro vs w;rw[Vn]at w;cases w;exact .nil
 |cons n ns ih=>
  intro vs w;rw[Sq]at w;cases w with
  |cons a b=>cases a;exact .cons _ _ (ih _ b)
theorem AJ{l:OpenLaw}{n:Nat}(hn:l.most=some n){P:Params}{h:Heap}{args:List WData}{vals:List Value}
  (hpre:l.row.toRowW.claim.pre args=true) (hwl:WellAll P h vals args) :
  ∃a vs ns,vals=[TQ a]/\args=[WData.list (ns.map WData.int)]/\h.get? a=some { cls:=.type "list",data:=.seq vs.toArray }/\IntsAre vs ns/\ns.length<=n:=by
 have hsh:WShape.hasAll [] args [.list .int]=true:=(pre_splitW hpre).1;have hc:l.pre.holds [] { args:=args }=true:=(pre_splitW hpre).2;obtain⟨d,r,rfl,h1,h2⟩:=hasAllW_cons hsh;obtain rfl:=hasAllW_nil h2;obtain⟨xs,rfl,h3⟩:=hasW_list h1;obtain⟨ns,rfl⟩:=items_int h3;have Fd:ns.length<=n:=by
  unfold OpenLaw.pre at hc;have h4:(WTm.not (.lt (.lit (.int (n:Int))) (.len (.arg 0)))).holds [] { args:=[.list (ns.map .int)] }=true:=by have h4:=(holds_andW hc).1;rw[hn]at h4;exact h4
  have h5:=condW_of h4 (w_not (w_lt w_lit (w_len_list (w_arg rfl))));rw[Ss]at h5;refine Nat.le_of_not_lt fun q=>?_;have q':(n:Int)<((ns.length:Nat):Int):=by omega
  first
   |(rw[decide_eq_true q']at h5;exact absurd h5 (by decide))
   |(simp at h5;omega)
 cases hwl with
 |cons w1 w2=>
  cases w2;cases w1 with
  |list ho hall=>exact⟨_,_,ns,rfl,rfl,ho,mq ns _ hall,Fd⟩
theorem AK(l:OpenLaw)(args:List WData):l.row.toRowW.claim.post args (.bool true) args=true:=
 postW_of (r:=l.row.toRowW) (X:=(true == true))
  (show WShape.has [] (.bool true) .bool=true by first | rfl | decide | simp[WShape.has,WShape.arms,WShape.armsAll])
  (show (WTm.eq .res (.lit (.bool true))).value [] { args:=args,res:=some (.bool true),after:=args }=some (.bool (true == true)) from w_eq_bool (w_res rfl) w_lit) rfl
theorem ud{l:OpenLaw}{n:Nat}{q:Program}{loose:List Str}{XP:(Str->Option Value)->Heap->Prop}{YP:World->Heap->Prop}{d:DefRec}
  (hn:l.most=some n) (hdf:d.params.defaults=[])
  (call:∀ (w:World) (s₀ s₁:Shared) (mg mb:Str→Option Value) (fa:Addr) (o:Obj) (pm cd doc:Value) (a:Addr) (vs:List Value) (ns:List Int),
   Ground q loose [] XP w s₀ mg mb s₁.heap->YP w s₁.heap ->
   s₁.heap.get? fa=some o->o.data=.func (docDef d.name d.params d.body d.scope pm cd doc)->s₁.heap.CodeRec cd d.name->mg d.name=some (.ref fa) ->
   s₁.heap.get? a=some { cls:=.type "list",data:=.seq vs.toArray }->IntsAre vs ns->ns.length<=n->s₁.gens=#[] ->
   codeAny (model l.prog w) callerA (.call (.ref fa) ⟨[.ref a],[]⟩) (fun r s'=>r=.ok (.ret (.bool true))/\OldK s₁.heap s'.heap/\s'.os=s₁.os/\AllBare s'.gens) s₁) :
  WalkO q loose XP YP l.row.toRowW d [] (fun f vs=>PySem.call f vs):=by
 intro w s₀ s₁ mg mb G Y fa o pm cd doc dV kV ho hd PJ hD hmg hg args vals as hpre hlay hrd hwl hlo;obtain rfl:dV=.none:=Dflts.none hD hdf;obtain rfl:kV=.none:=Dflts.noKw hD;obtain⟨a,vs,ns,rfl,rfl,hobj,hints,Fd⟩:=AJ hn hpre hwl;refine enter_call (codeAny_mono (call w s₀ s₁ mg mb fa o pm cd doc a vs ns G Y ho (fd_plain hd) PJ hmg hobj hints Fd hg) fun r s' hq=>?_);obtain⟨rfl,h2,h3,h4⟩:=hq;exact⟨.inl ⟨.bool true,.bool true,[],rfl,fun _=>rfl,.bool true,AK l _,fun _=>⟨List.Pairwise.nil,fun _ hm=>(nomatch hm)⟩⟩,h2,h3,h4⟩
end Att
namespace L2
open PySem PySem.Spec PyProof.Rows
theorem dD:∀{vs:List Value} {ns:List Int},IntsAre vs ns->Vals (ns.map V.int) vs
 |_,_,.nil=>.nil
 |_,_,.cons n t h=>.cons ⟨t,rfl⟩ (dD h)
def KI(H:Hp):Prop:=∀b,H b=none\/∃o xs,H b=some (.frz o (.lst xs))
theorem Cd{P:Program}{w:World}{K:gc}{mg mb:Str->Option Value}{CX:CXT}{k:Nat}{fa a:Addr}{fd:FuncData}{x:Str}{sp:Sp}{s₁:Shared}{vs:List Value}{ns:List Int}
  (KX:K.In s₁.heap) (hns:s₁.heap.Ns mainGlobals mg) (hb:s₁.heap.Ns builtinsNs mb) (hbb:∀x:Str,x ≠ "__name__" -> mb x=bootBuiltins x) (hlim:s₁.heap.NoLimit) (hg:s₁.gens=#[])
  (ha:s₁.heap.get? a=some { cls:=.type "list",data:=.seq vs.toArray }) (hi:IntsAre vs ns) (hl:ns.length<=sizeLine) (hr:bq k callerA)
  (F:∀base:Heap,K.In base->base.Ns mainGlobals mg->aP P w K mg base CX k fa fd [x] sp) (hbind:∀(s:Shared) (u:Value),BindsTo s fd ⟨[u],[]⟩ [(x,u)])
  (hsp:∀H:Hp,KI H->SqL K H a (ns.map V.int)->sp [.ref a] H (fun v _=>v=.bl true) fun _ _ _=>False)
  (hCX:∀H e s',CX [] H s₁ (fun _ _ _=>False) e s'->False) :
  codeAny (model P w) callerA (.call (.ref fa) ⟨[.ref a],[]⟩) (fun r s'=>r=.ok (.ret (.bool true))/\OldK s₁.heap s'.heap/\s'.os=s₁.os/\AllBare s'.gens) s₁:=by
 have rv:=dD hi;have QZ:=hi.length;have core:∀H:Hp,KI H->SqL K H a (ns.map V.int)->HOk P w H s₁.heap->(∀b,H b≠none->b=a)->(H a≠none->K.lookup a=none) ->
   codeAny (model P w) callerA (.call (.ref fa) ⟨[.ref a],[]⟩) (fun r s'=>r=.ok (.ret (.bool true))/\OldK s₁.heap s'.heap/\s'.os=s₁.os/\AllBare s'.gens) s₁:=by
  intro H hO hS hok hA hK;have yS:∀{b:Addr} {o:Obj},s₁.heap.get? b=some o->H b=none->(rQ s₁.heap H).get? b=some o:=fun e n=>BN e n;have noA:∀{b:Addr} {o:Obj} {es:Array DictEntry} {ep:Nat},s₁.heap.get? b=some o->o.data=.dict es ep->H b=none:=fun {b o es ep} e d=>by
   cases q:H b with
   |none=>rfl
   |some u=>have e':b=a:=hA b (by rw[q];simp);subst e';rw[ha]at e;cases e;have d':Data.seq vs.toArray _=Data.dict es ep:=d;cases d'
  have nsK:∀{b:Addr} {m:Str->Option Value},s₁.heap.Ns b m->(rQ s₁.heap H).Ns b m:=fun {b m} ⟨o,es,ep,e,d,r⟩=>⟨o,es,ep,yS e (noA e d),d,r⟩;have hKb:K.In (rQ s₁.heap H):=fun b o e=>yS (KX b o e) (by
   cases q:H b with
   |none=>rfl
   |some u=>have e':b=a:=hA b (by rw[q];simp);subst e';rw[hK (by rw[q];simp)]at e;cases e)
  have hM:Mod K mg (rQ s₁.heap H):=⟨hKb,nsK hns,⟨mb,nsK hb,hbb⟩,let ⟨mc,h1,h2⟩:=hlim;⟨mc,nsK h1,h2⟩⟩
  have e0:Gq P w K mg (rQ s₁.heap H) callerA [] s₁ H:=⟨rfl,hM,fun b o e=>Ge e,Nat.le_of_eq (Ar _ _),trivial,fun b hb=>absurd (show b∈([]:List Addr) from hb) (by simp),hok,.of_eq hg⟩
  refine codeAny_mono ((F _ hKb (nsK hns)).run callerA [] s₁ H ⟨[.ref a],[]⟩ [.ref a] [.ref a] _ _ hr e0 (hbind s₁ (.ref a)) (.cons rfl .nil) (hsp H hO hS)) fun r s' h=>?_;cases r with
  |error e=>exact(hCX H e s' h).elim
  |ok fl=>
   cases fl with
   |next=>exact Tt h
   |brk=>exact Tt h
   |cont=>exact Tt h
   |ret u=>
    obtain⟨v,H',os,bare,un,Q0,r',q⟩:=h;have q':v=.bl true:=q;subst q';obtain rfl:u=Wo true:=r';refine⟨rfl,OldK.of_keep fun b o e=>?_,os,bare⟩;cases q:H b with
    |none=>exact un.keep b o e q (by intro z;exact absurd (show b∈([]:List Addr) from z) (by simp)) (by simp)
    |some u=>
     rcases hO b with z | ⟨ob,xs,z⟩
     ·rw[q]at z;cases z
     ·have z2:=un.rP b ob _ z;obtain⟨e1,_⟩:=hok b _ z;obtain⟨e2,_⟩:=Q0 b _ z2;rw[e]at e1;cases e1;exact e2
 cases hk:K.lookup a with
 |some o=>have e:=KX a o hk;rw[ha]at e;cases e;refine core (fun _=>none) (fun _=>.inl rfl) (.inr ⟨_,vs.toArray,_,hk,rfl,rfl,rfl,by rw[SG,QZ];exact hl,by simpa using rv⟩) (fun b u z=>by have z':(none:Option HO)=some u:=z;cases z') (fun b z=>absurd rfl z) fun z=>absurd rfl z
 |none=>
  refine core (fun b=>if b=a then some (.frz { cls:=.type "list",data:=.seq vs.toArray } (.lst (ns.map V.int))) else none) (fun b=>?_) (.inl (.inr ⟨{ cls:=.type "list",data:=.seq vs.toArray },if_pos rfl⟩)) (fun b u z=>?_) (fun b z=>?_) fun _=>hk
  ·by_cases hb:b=a
   ·exact .inr ⟨_,_,if_pos hb⟩
   ·exact .inl (if_neg hb)
  ·by_cases hb:b=a
   ·have z':=(if_pos hb).symm.trans z;cases z';subst hb;exact⟨ha,by rw[Ss];exact hl,vs,_,rv,ha⟩
   ·have z':=(if_neg hb).symm.trans z;cases z'
  ·by_cases hb:b=a
   ·exact hb
   ·exact absurd (if_neg hb) z
theorem Gx{l:V2}{n k:Nat}{q:Program}{loose:List Str}{XP:(Str->Option Value)->Heap->Prop}{YP:World->Heap->Prop}{d:DefRec}{K:Params->gc}{CX:World->CXT}{sp:World->Sp}{x:Str}
  (hn:l.most=some n) (hn2:n<=sizeLine) (hdf:d.params.defaults=[]) (hr:bq k callerA)
  (hY:∀(w:World) (h:Heap),YP w h->(K w.params).In h)
  (F:∀ (w:World) (mg:Str→Option Value) (fa:Addr) (h:Heap),(K w.params).In h→h.Ns mainGlobals mg→mg d.name=some (.ref fa) →
   ∃fd:FuncData,(∀(s:Shared) (u:Value),BindsTo s fd ⟨[u],[]⟩ [(x,u)]) /\
    ∀base:Heap,(K w.params).In base->base.Ns mainGlobals mg->aP l.prog w (K w.params) mg base (CX w) k fa fd [x] (sp w))
  (hsp:∀(w:World) (H:Hp) (a:Addr) (ns:List Int),ns.length<=n->KI H->SqL (K w.params) H a (ns.map V.int)->sp w [.ref a] H (fun v _=>v=.bl true) fun _ _ _=>False)
  (hCX:∀(w:World) (H:Hp) (s:Shared) (e:Value) (s':Shared),CX w [] H s (fun _ _ _=>False) e s'->False) :
  PySem.W.WalkO q loose XP YP l.row.toRowW d [] (fun f vs=>PySem.call f vs):=by
 refine Att.ud hn hdf fun w s₀ s₁ mg mb fa o pm cd doc a vs ns G Y ho hd PJ hmg hobj hints Fd hg=>?_;have KX:=hY w _ Y;obtain⟨fd,hb,hF⟩:=F w mg fa _ KX G.T.g hmg;exact Cd KX G.T.g G.T.b G.T.builtins G.T.nolimit hg hobj hints (S8 Fd hn2) hr hF hb (fun H hO hS=>hsp w H a ns Fd hO hS) fun H e s'=>hCX w H s₁ e s'
noncomputable def bf(s:Stmt):Arguments:=match s with
 |.FunctionDef _ a _ _ _ _ _ _ _ _=>a
 |_=>{ posonlyargs:=[],args:=[],vararg:=none,kwonlyargs:=[],kw_defaults:=[],kwarg:=none,defaults:=[] }
noncomputable def aV(s:Stmt):List Stmt:=match s with
 |.FunctionDef _ _ b _ _ _ _ _ _ _=>b
 |_=>[]
noncomputable def ah(s:Stmt):Scope:=match s with
 |.FunctionDef _ _ _ _ _ _ sc _ _ _=>sc
 |_=>{ kind:=.function,names:=[],isGenerator:=false,isCoroutine:=false }
noncomputable abbrev CX0:CXT:=fun _ _ _ _ _ _=>False
noncomputable abbrev E0:XK:=fun _ _ _=>False
theorem lG{X:Cx}:Passes CX0 X E0:=fun _ _ _ _ _ _ _ h=>h.elim
structure Fun(K:gc)(x qual:Str)(st:Stmt)(f:Addr)(fd:FuncData):Prop where
 ex:∃(oc:Value) (od:Option Addr) (kV doc pm:Value) (an:Option Addr) (cdv ct:Value) (osl:Array (Option Value)),
  fd=Tq x qual (bf st) (aV st) (ah st) .none kV doc pm an cdv ct/\K.lookup f=some ⟨oc,od,.func fd,osl⟩/\Vw K cdv qual=true
 kp:TY K (.ref f)=true
section
variable{P:Program}{w:World}{K:gc}{mg:Str->Option Value}{base:Heap}
section
variable{x qual:Str}{st:Stmt}{fd:FuncData}{f:Addr}
theorem Fun.ok{N ps:List Str}{k:Nat}{sp:Sp}(F:Fun K x qual st f fd)(S:ay N ps (ah st))(len:∀vs H Q E,sp vs H Q E->vs.length=ps.length)
  (hbody:∀ (cdv:Value) (A:Around) (outer:List Env) (s:Shared) (H:Hp) (vs:List V) (Q:VK) (E:XK),bq k (A.deeper (envOfC qual (ah st) s.heap.objs.size f cdv))→sp vs H Q E →
   ∃t,PSs (AG CX0 P w K mg base N qual (ah st) f cdv A outer s H E).nox (aV st) t/\t { nx:=fun _ H'=>Q .non H',rt:=Q } (start N vs) H):aP P w K mg base CX0 (k+1) f fd ps sp:=by
 obtain⟨oc,od,kV,doc,pm,an,cdv,ct,osl,rfl,lk,PJ⟩:=F.ex;refine NV lk PJ S len fun A outer s H vs Q E hr hsp=>?_;obtain⟨t,h,q⟩:=hbody cdv A outer s H vs Q E hr hsp;exact⟨t,h.nox,q⟩
theorem Fun.binds{ps:List Str}(F:Fun K x qual st f fd)
  (h:∀(kV doc pm:Value) (an:Option Addr) (cdv ct:Value) (us:List Value),us.length=ps.length->bindArgs (Tq x qual (bf st) (aV st) (ah st) .none kV doc pm an cdv ct) ⟨us,[]⟩=pure (ps.zip us)):Binds K fd ps []:=by
 obtain⟨oc,od,kV,doc,pm,an,cdv,ct,osl,rfl,lk,PJ⟩:=F.ex;exact .all (h kV doc pm an cdv ct)
theorem KJ{oc:Value}{od an:Option Addr}{osl:Array (Option Value)}{kV doc pm cdv ct:Value}(l:K.lookup f=some ⟨oc,od,.func (Tq x qual (bf st) (aV st) (ah st) .none kV doc pm an cdv ct),osl⟩)
  (c:Vw K cdv qual=true) (k:TY K (.ref f)=true):Fun K x qual st f (Tq x qual (bf st) (aV st) (ah st) .none kV doc pm an cdv ct):=⟨⟨oc,od,kV,doc,pm,an,cdv,ct,osl,rfl,l,c⟩,k⟩
end
end
def ak(H H':Hp):Prop:=∀b o,H b=some o->H' b=some o
theorem ak.refl(H:Hp):ak H H:=fun _ _ h=>h
theorem ak.trans{H H1 H2:Hp}(a:ak H H1)(b:ak H1 H2):ak H H2:=fun c o h=>b c o (a c o h)
theorem ak.free{H H':Hp}(e:ak H H'){l:Addr}(h:H' l=Option.none):H l=Option.none:=by
 cases q:H l with
 |none=>rfl
 |some o=>rw[e l o q]at h;cases h
section
variable{κ:Type}[DecidableEq κ]
section
variable{u:Option Value}{o:Option V}{y:V}
noncomputable def iu(kvs:List (κ×V))(k:κ):Option V:=(kvs.find? fun kv=>decide (kv.1=k)).map (·.2)
noncomputable def putK(kvs:List (κ×V))(k:κ)(v:V):List (κ×V):=
 if (kvs.any fun kv=>decide (kv.1=k))=true then kvs.map (fun kv=>if kv.1=k then (kv.1,v) else kv) else kvs++[(k,v)]
noncomputable def lH(kvs:List (κ×V))(k:κ):List (κ×V):=kvs.filter fun kv=>decide (kv.1≠k)
theorem jQ{p:κ×V}{r:List (κ×V)}{k:κ}(e:p.1=k):iu (p::r) k=some p.2:=by simp[iu,Ue,e]
theorem jR{p:κ×V}{r:List (κ×V)}{k:κ}(e:¬p.1=k):iu (p::r) k=iu r k:=by simp[iu,Ue,e]
theorem ue(k:κ):∀kvs:List (κ×V),(kvs.any fun kv=>decide (kv.1=k))=(iu kvs k).isSome
 |[]=>rfl
 |p::r=>by
  rw[Ux];by_cases e:p.1=k
  ·simp only[jQ e,decide_eq_true e,Bool.true_or,Option.isSome_some]
  ·rw[jR e,decide_eq_false e,Bool.false_or];exact ue k r
theorem f6(kvs:List (κ×V))(k:κ)(v:V):(putK kvs k v).length<=kvs.length+1:=by
 unfold putK;split
 ·rw[Ss];omega
 ·rw[SJ,S1,UM];omega
theorem jH.eN(r:jH o u):o.isSome=u.isSome:=by
 cases o with
 |none=>cases u with
  |none=>rfl
  |some _=>exact(show False from r).elim
 |some _=>cases u with
  |none=>exact(show False from r).elim
  |some _=>rfl
theorem jH.getD{d:V}{d':Value}(r:jH o u)(rd:RelV d d'):RelV (o.getD d) (u.getD d'):=by
 cases o with
 |none=>cases u with
  |none=>exact rd
  |some _=>exact(show False from r).elim
 |some _=>cases u with
  |none=>exact(show False from r).elim
  |some _=>exact r
theorem KV.val{kvs:List (κ×V)}{vs:List (κ×Value)}(r:KV kvs vs)(k:κ):jH (iu kvs k) (valueAt vs k):=by
 unfold KV at r
 induction r with
 |nil=>exact Uk
 |@cons p q ps qs h t ih=>
  obtain⟨h1,h2⟩:=h;by_cases e:p.1=k
  ·have e':q.1=k:=h1.symm.trans e;have b:valueAt (q::qs) k=some q.2:=by simp[valueAt,Ue,e']
   rw[jQ e,b];exact h2
  ·have e':¬q.1=k:=fun z=>e (h1.trans z);have b:valueAt (q::qs) k=valueAt qs k:=by simp[valueAt,Ue,e']
   rw[jR e,b];exact ih
theorem KV.any{kvs:List (κ×V)}{vs:List (κ×Value)}(r:KV kvs vs)(k:κ):(kvs.any fun kv=>decide (kv.1=k))=vs.any fun kv=>decide (kv.1=k):=by
 unfold KV at r
 induction r with
 |nil=>rfl
 |cons h t ih=>rw[Ux,Ux,ih,h.1]
theorem KV.repl{kvs:List (κ×V)}{vs:List (κ×Value)}(r:KV kvs vs)(k:κ){u:Value}(ry:RelV y u) :
  KV (kvs.map fun kv=>if kv.1=k then (kv.1,y) else kv) (vs.map fun kv=>if kv.1=k then (kv.1,u) else kv):=by
 unfold KV at r ⊢
 induction r with
 |nil=>exact .nil
 |@cons p q ps qs h t ih=>
  rw[Sq,Sq];refine .cons ?_ ih;obtain⟨h1,h2⟩:=h;by_cases e:p.1=k
  ·rw[if_pos e,if_pos (h1.symm.trans e)];exact⟨h1,ry⟩
  ·rw[if_neg e,if_neg (fun z=>e (h1.trans z))];exact⟨h1,h2⟩
theorem KV.put{kvs:List (κ×V)}{vs:List (κ×Value)}(r:KV kvs vs)(k:κ){u:Value}(ry:RelV y u):KV (putK kvs k y) (stored vs k u):=by
 unfold putK stored;rw[r.any k];by_cases e:(vs.any fun kv=>decide (kv.1=k))=true
 ·rw[if_pos e,if_pos e];exact r.repl k ry
 ·rw[if_neg e,if_neg e];exact Paired.snoc r ⟨rfl,ry⟩
theorem KV.drop{kvs:List (κ×V)}{vs:List (κ×Value)}(r:KV kvs vs)(k:κ):KV (lH kvs k) (without vs k):=by
 unfold KV at r ⊢;unfold lH without
 induction r with
 |nil=>exact .nil
 |@cons p q ps qs h t ih=>
  obtain⟨h1,h2⟩:=h;rw[Uj,Uj];by_cases e:p.1=k
  ·have a:¬decide (p.1≠k)=true:=by simp[e]
   have b:¬decide (q.1≠k)=true:=by simp[h1.symm.trans e]
   rw[if_neg a,if_neg b];exact ih
  ·have e':¬q.1=k:=fun z=>e (h1.trans z);have a:decide (p.1≠k)=true:=by simp[e]
   have b:decide (q.1≠k)=true:=by simp[e']
   rw[if_pos a,if_pos b];exact .cons ⟨h1,h2⟩ ih
theorem KV.length{kvs:List (κ×V)}{vs:List (κ×Value)}(r:KV kvs vs):kvs.length=vs.length:=Paired.length r
theorem Ce(kvs:List (κ×V))(k:κ):(lH kvs k).length<=kvs.length:=UU _ _
end
end
section
variable{xs:List (List Key×Addr×Value)}{kvs:List (List Key×V)}{u:Value}{P:Program}{w:World}{H:Hp}{y:V}
theorem lI{k:Key}(r:RelV (kV k) u):(aU P w).is k u=true:=by
 cases k with
 |inl i=>obtain⟨t,e⟩:=(show ∃t,u=Value.int i t from r);subst e;exact tR P w i t
 |inr x=>obtain⟨t,e⟩:=(show ∃t,u=VY x t from r);subst e;exact tS P w x t
theorem qI:∀{ks:List Key} {us:List Value},Vals (ks.map kV) us->ItemsAre (aU P w) ks us
 |[],_,r=>by rw[Vn]at r;cases r;exact .nil
 |k::ks,_,r=>by
  rw[Sq]at r;cases r with
  |cons h t=>exact .cons (lI h) (qI t)
noncomputable abbrev KT(H:Hp):List (List Key×V)->List (List Key×Addr×Value)->Prop:=Paired fun p q=>p.1=q.1/\H q.2.1=some (.tup (p.1.map kV))/\RelV p.2 q.2.2
theorem KT.val(r:KT H kvs xs)(k:List Key):jH (iu kvs k) ((atKey xs k).map (·.2)):=by
 induction r with
 |nil=>exact Uk
 |@cons p q ps qs h t ih=>
  obtain⟨h1,_,h2⟩:=h;by_cases e:p.1=k
  ·have e':q.1=k:=h1.symm.trans e;have b:atKey (q::qs) k=some q.2:=by simp[atKey,Ue,e']
   rw[jQ e,b];exact h2
  ·have e':¬q.1=k:=fun z=>e (h1.trans z);have b:atKey (q::qs) k=atKey qs k:=by simp[atKey,Ue,e']
   rw[jR e,b];exact ih
theorem KT.repl(r:KT H kvs xs)(k:List Key)(ry:RelV y u) :
  KT H (kvs.map fun kv=>if kv.1=k then (kv.1,y) else kv) (xs.map (putAt k u)):=by
 induction r with
 |nil=>exact .nil
 |@cons p q ps qs h t ih=>
  rw[Sq,Sq];refine .cons ?_ ih;obtain⟨h1,h2,h3⟩:=h;unfold putAt;by_cases e:p.1=k
  ·rw[if_pos e,if_pos (h1.symm.trans e)];exact⟨h1,h2,ry⟩
  ·rw[if_neg e,if_neg (fun z=>e (h1.trans z))];exact⟨h1,h2,h3⟩
theorem KT.put(r:KT H kvs xs)(k:List Key){b:Addr}(hb:H b=some (.tup (k.map kV)))(ry:RelV y u) :
  KT H (putK kvs k y) (storedH xs k b u):=by
 have e:(kvs.any fun kv=>decide (kv.1=k))=(atKey xs k).isSome:=by rw[ue,(r.val k).eN,Vg]
 unfold putK storedH;rw[e];by_cases q:(atKey xs k).isSome=true
 ·rw[if_pos q,if_pos q];exact r.repl k ry
 ·rw[if_neg q,if_neg q];exact Paired.snoc r ⟨rfl,hb,ry⟩
theorem KT.keeps{H H':Hp}(r:KT H kvs xs)(ht:∀b ys,H b=some (.tup ys)->H' b=some (.tup ys)):KT H' kvs xs:=
 Paired.J7 r fun _ _ z=>⟨z.1,ht _ _ z.2.1,z.2.2⟩
end
section
variable{P:Program}{w:World}{H:Hp}{h:Heap}{a:Addr}
section
variable{kvs:List (List Key×V)}
theorem IM{u:HO}(ok:HOk P w H h)(e:Rd H a u):aT P w H h a u:=e.ok ok
theorem lJ{kvs:List (Key×V)}(ok:HOk P w H h)(e:Rd H a (.dK kvs)):kvs.length<=sizeLine/\(a == sysModules)=false/\∃vs,KV kvs vs/\h.DictOf (aU P w) a vs:=
 show aT P w H h a (.dK kvs) from IM ok e
theorem yT{kvs:List (Key×V)}(ok:HOk P w H h)(e:H a=some (.dK kvs)):kvs.length<=sizeLine/\(a == sysModules)=false/\∃vs,KV kvs vs/\h.DictOf (aU P w) a vs:=lJ ok (.inl e)
theorem kK{ks:List Key}(ok:HOk P w H h)(e:H a=some (.tup (ks.map kV))):(tupleKind (aU P w)).is h ks a:=by
 obtain⟨_,its,r,o,h1,h2,n,h3⟩:=(show aT P w H h a (.tup (ks.map kV)) from ok a _ e)
 exact⟨o,its.toArray,n,h1,h2,h3,by simpa using qI r⟩
theorem m8(ok:HOk P w H h)(e:Rd H a (.dT kvs)):kvs.length<=sizeLine/\(a == sysModules)=false /\
  ∃xs,KT H kvs xs/\h.DictOfH (tupleKind (aU P w)) a xs:=by
 obtain⟨z,y,xs,r,o,es,ep,h1,h2,h3,h4,h5⟩:=(show aT P w H h a (.dT kvs) from IM ok e)
 refine⟨z,y,xs,r,o,es,ep,h1,h2,h3,h4,fun x hx=>?_,h5⟩;have all:∀{l:List (List Key×V)} {m:List (List Key×Addr×Value)},KT H l m->∀x∈m,(tupleKind (aU P w)).is h x.1 x.2.1:=by
  intro l m q
  induction q with
  |nil=>intro x hx;exact nomatch hx
  |@cons p q ps qs hq t ih=>
   intro x hx;rcases SD.mp hx with e | hx
   ·subst e;exact kK ok (by rw[<- hq.1];exact hq.2.1)
   ·exact ih x hx
 exact all r x hx
theorem NX(ok:HOk P w H h)(e:H a=some (.dT kvs)):kvs.length<=sizeLine/\(a == sysModules)=false /\
  ∃xs,KT H kvs xs/\h.DictOfH (tupleKind (aU P w)) a xs:=m8 ok (.inl e)
end
end
section
variable{kvs:List (Key×V)}{a:Addr}{H:Hp}
def fV(H:Hp)(a:Addr)(y:V)(r:Option V):Prop:=
 (∃kvs k,Rd H a (.dK kvs)/\y=kV k/\r=iu kvs k)\/∃kvs k b,Rd H a (.dT kvs)/\y=.ref b/\H b=some (.tup (k.map kV))/\r=iu kvs k
def Cf(H:Hp)(a:Addr)(y v:V)(H':Hp):Prop:=
 (∃kvs k,H a=some (.dK kvs)/\y=kV k/\kvs.length<sizeLine/\H'=upd H a (.dK (putK kvs k v))) \/
 ∃kvs k b,H a=some (.dT kvs)/\y=.ref b/\H b=some (.tup (k.map kV))/\kvs.length<sizeLine/\H'=upd H a (.dT (putK kvs k v))
theorem fV.k{k:Key}(e:H a=some (.dK kvs)):fV H a (kV k) (iu kvs k):=.inl ⟨kvs,k,.inl e,rfl,rfl⟩
theorem Cf.k{k:Key}{v:V}(e:H a=some (.dK kvs))(hl:kvs.length<sizeLine):Cf H a (kV k) v (upd H a (.dK (putK kvs k v))):=.inl ⟨kvs,k,e,rfl,hl,rfl⟩
end
section
variable{X:Cx}{uW:List (Addr×Obj)}{σ:St}{H:Hp}{s:Shared}{a:Addr}{y v:V}{u r:Value}{o:Option V}{A:Around}{E:Value->Shared->Prop}
section
variable{Q:Value->Shared->Prop}{h':Heap}
theorem Inv.big(I:Inv X uW σ H s):sysModules<s.heap.objs.size:=by have h:mainGlobals<s.heap.objs.size:=(I.mod.glob.keeps I.bk).lt;exact Vo (by decide) h
theorem AL(hu:A.units+1<cLine)(I:Inv X uW σ H s)(g:fV H a y (some v))(ry:RelV y u)(h:∀w' s',Inv X uW σ H s'->RelV v w'->Q w' s') :
  wpAny (model X.prog X.w) A (getItem (.ref a) u) Q E s:=by
 rcases g with⟨kvs,k,e,ey,l⟩ | ⟨kvs,k,b,e,ey,eb,l⟩
 ·subst ey;obtain⟨z,hd,vs,rel,dd⟩:=lJ I.hok e;obtain⟨w',hw,rw'⟩:=jH.some_of (v:=v) (o:=valueAt vs k) (by rw[l];exact rel.val k);exact wpAny_getItem_of (lI ry) dd.mapOf hw (h w' _ (I.tok _) rw')
 ·subst ey;cases (show u=TQ b from ry);obtain⟨z,hd,xs,rel,dd⟩:=m8 I.hok e;obtain⟨w',hw,rw'⟩:=jH.some_of (v:=v) (o:=(atKey xs k).map (·.2)) (by rw[l];exact rel.val k);obtain⟨p,hp,hp2⟩:=Option.map_eq_some_iff.mp hw;refine wpAny_getItem_heap (tupleKind_room_in1 hu) (kK I.hok eb) dd hp ?_;rw[hp2];exact h w' _ (I.tok _) rw'
theorem Cg(hu:A.units+1<cLine)(I:Inv X uW σ H s)(g:fV H a y o)(ry:RelV y u)(h:∀s',Inv X uW σ H s'->Q (.bool o.isSome) s') :
  wpAny (model X.prog X.w) A (compareOp .In u (.ref a)) Q E s:=by
 rcases g with⟨kvs,k,e,ey,l⟩ | ⟨kvs,k,b,e,ey,eb,l⟩
 ·subst ey;obtain⟨z,hd,vs,rel,dd⟩:=lJ I.hok e;refine wpAny_in_of (lI ry) hd dd.mapOf ?_;rw[<- (rel.val k).eN,<- l];exact h _ (I.tok _)
 ·subst ey;cases (show u=TQ b from ry);obtain⟨z,hd,xs,rel,dd⟩:=m8 I.hok e;refine wpAny_in_heap (tupleKind_room_in1 hu) (kK I.hok eb) hd dd ?_;have q:=(rel.val k).eN;rw[Vg]at q;rw[<- q,<- l];exact h _ (I.tok _)
theorem Gy(hu:A.units+1<cLine)(I:Inv X uW σ H s)(g:fV H a y o)(ry:RelV y u)(h:∀s',Inv X uW σ H s'->Q (.bool (!o.isSome)) s') :
  wpAny (model X.prog X.w) A (compareOp .NotIn u (.ref a)) Q E s:=by
 rcases g with⟨kvs,k,e,ey,l⟩ | ⟨kvs,k,b,e,ey,eb,l⟩
 ·subst ey;obtain⟨z,hd,vs,rel,dd⟩:=lJ I.hok e;refine wpAny_notIn_of (lI ry) hd dd.mapOf ?_;rw[<- (rel.val k).eN,<- l];exact h _ (I.tok _)
 ·subst ey;cases (show u=TQ b from ry);obtain⟨z,hd,xs,rel,dd⟩:=m8 I.hok e;refine wpAny_notIn_heap (tupleKind_room_in1 hu) (kK I.hok eb) hd dd ?_;have q:=(rel.val k).eN;rw[Vg]at q;rw[<- q,<- l];exact h _ (I.tok _)
theorem mG{t':Nat}{ob:HO}(I:Inv X uW σ H s)(mu:Mut (H a))(hs:UT a s.heap h')(he:∃q,h'.get? a=some q)(new:aT X.prog X.w (upd H a ob) h' a ob) :
  Inv X uW σ (upd H a ob) { s with heap:=h',toks:=t' }:=
 I.write (x:=a) (e:=a) mu (.inl rfl) (fun b q hb z=>(hs.2 b hb).trans z) he new
theorem rW{P:Program}{w:World}{H':Hp}{kvs:List (Key×V)}{vs:List (Key×Value)}(z:kvs.length<=sizeLine)(hd:(a == sysModules)=false)(rel:KV kvs vs)(dd:h'.DictOf (aU P w) a vs) :
  aT P w H' h' a (.dK kvs):=⟨z,hd,vs,rel,dd⟩
theorem AM{H':Hp}{Q:Unit->Shared->Prop}(hu:A.units+1<cLine)(I:Inv X uW σ H s)(g:Cf H a y v H')(ry:RelV y u)(rv:RelV v r)(h:∀s',Inv X uW σ H' s'->Q () s') :
  wpAny (model X.prog X.w) A (setItem (.ref a) u r) Q E s:=by
 rcases g with⟨kvs,k,e,ey,l,eH⟩ | ⟨kvs,k,b,e,ey,eb,l,eH⟩
 ·subst ey eH;obtain⟨z,hd,vs,rel,dd⟩:=yT I.hok e;have hz:vs.length<=sizeLine:=by rw[<- rel.length];exact z
  have hl:(putK kvs k v).length<=sizeLine:=by have:=f6 kvs k v;omega
  refine wpAny_setItem_pairs (hsz:=hz) (lI ry) dd fun h' dd' hs=>h _ ?_;have he:∃q,h'.get? a=some q:=let ⟨q,_,_,hq,_⟩:=dd';⟨q,hq⟩
  exact mG I (by rw[e];exact Uk) hs he (rW hl hd (rel.put k rv) dd')
 ·subst ey eH;cases (show u=TQ b from ry);obtain⟨z,hd,xs,rel,dd⟩:=NX I.hok e;have hz:xs.length<=sizeLine:=by rw[<- Paired.length rel];exact z
  have hl:(putK kvs k v).length<=sizeLine:=by have:=f6 kvs k v;omega
  refine wpAny_setItem_heap (hsz:=hz) (tupleKind_room_in1 hu) (kK I.hok eb) dd fun h' dd' hs=>h _ ?_;obtain⟨q,es,ep,hq,h2,h3,h4,_,h5⟩:=dd';refine mG I (by rw[e];exact Uk) hs ⟨q,hq⟩ ⟨hl,hd,_,(rel.put k eb rv).keeps fun c ys ec=>?_,q,es,ep,hq,h2,h3,h4,h5⟩;rw[aq (NG ec e (fun z=>nomatch z))];exact ec
end
end
section
variable{X:Cx}{uW:List (Addr×Obj)}{σ:St}{H:Hp}{s:Shared}{a:Addr}{kvs:List (Key×V)}{k:Key}{u:Value}{A:Around}{E:Value->Shared->Prop}
theorem NY{v:V}{more:List Value}{Q:Value->Shared->Prop}(I:Inv X uW σ H s)(e:H a=some (.dK kvs))(ry:RelV (kV k) u)(l:iu kvs k=some v)(hm:more=[]\/∃x,more=[x])
  (h:∀w' s',Inv X uW σ (upd H a (.dK (lH kvs k))) s'->RelV v w'->Q w' s'):wpAny (model X.prog X.w) A (call (.builtin "dict.pop") (.ref a::u::more)) Q E s:=by
 obtain⟨z,hd,vs,rel,dd⟩:=yT I.hok e;obtain⟨w',hw,rw'⟩:=jH.some_of (v:=v) (o:=valueAt vs k) (by rw[<- l];exact rel.val k);have hp:(keyPart u).isSome=true:=by
  cases k with
  |inl i=>obtain⟨t,q⟩:=(show ∃t,u=Value.int i t from ry);subst q;rfl
  |inr x=>obtain⟨t,q⟩:=(show ∃t,u=VY x t from ry);subst q;rfl
 have ha:argsOk "dict.pop" ⟨.ref a::u::more,[]⟩:=by
  rcases hm with q | ⟨x,q⟩
  ·subst q;exact PySem.F.args_dict_pop_2 _ _
  ·subst q;exact PySem.F.args_dict_pop_3 _ _ _
 refine call_meetsIn PySem.F.slot_dict_pop dd.typeIs PySem.F.entry_dict_pop ha (meets_dict_pop_there (aU X.prog X.w) a (lI ry) more hm hp)
  ⟨vs,w',dd,by rw[<- rel.length];exact z,hw,fun h' dd' hs=>h w' _ ?_ rw'⟩
 have he:∃q,h'.get? a=some q:=let ⟨q,_,_,hq,_⟩:=dd';⟨q,hq⟩
 exact mG I (by rw[e];exact Uk) hs he (rW (S8 (Ce kvs k) z) hd (rel.drop k) dd')
end
def KN(i:Expr):Prop:=∀ov iv,subscripted i false ov iv=operate [ov,iv] (getItem ov iv)
theorem Gz{prog:Program}{w:World}{A:Around}{E:Value->Shared->Prop}{s:Shared}{env:Env}{value slice:Expr}{pos:Pos}{T id:String}{Q:Value->Shared->Prop}
  (hl:typeLookup (.type T) "__getitem__" = pure (some (.builtin id))) (hs:KN slice)
  (h:wpAny (model prog w) A (eval value env) (fun o s₁=>wpAny (model prog w) A (eval slice env) (fun i s₂=>s₂.TypeIs o T/\wpAny (model prog w) A (getItem o i) Q E s₂) E s₁) E s) :
  wpAny (model prog w) A (eval (.Subscript value slice pos) env) Q E s:=by
 refine Subscript_ (wpAny_mono h (fun o s₁ h₁=>wpAny_mono h₁ (fun i s₂ h₂=>?_) fun _ _ x=>x) fun _ _ x=>x);obtain⟨hT,h₂⟩:=h₂;unfold subscriptTail;refine wpAny_bind ?_;rw[getitemInPython_of_ne hT.not_modules];refine wpAny_bind (wpAny_specialOf hT hl ?_);have PF:wpAny (model prog w) A (subscripted slice false o i) (fun r s₃=>wpAny (model prog w) A (letTemporaryGo value o r >>= fun _=>pure r) Q E s₃) E s₂:=by rw[hs o i];exact wpAny_operating (wpAny_mono h₂ (fun r s₃ h₃=>wpAny_bind (wpAny_letTemporaryGo (wpAny_pure h₃))) fun _ _ x=>x)
 first
  |exact wpAny_pure (wpAny_bind PF)
  |exact wpAny_bind (wpAny_pure (wpAny_bind PF))
  |exact wpAny_bind PF
theorem uf{X:Cx}{uW:List (Addr×Obj)}{σ:St}{H:Hp}{s:Shared}{a:Addr}{y:V}{o:Option V}(I:Inv X uW σ H s)(g:fV H a y o):s.TypeIs (.ref a) "dict" := by
 rcases g with⟨kvs,k,e,_,_⟩ | ⟨kvs,k,b,e,_,_,_⟩
 ·obtain⟨_,_,vs,_,dd⟩:=lJ I.hok e;exact dd.typeIs
 ·obtain⟨_,_,xs,_,dd⟩:=m8 I.hok e;exact dd.typeIs
def NZ(td ty:TE):TE:=fun σ H Q=>td σ H fun x H1=>ty σ H1 fun y H2=>∃a v,x=.ref a/\fV H2 a y (some v)/\Q v H2
def Q2(ty td:TE):TE:=fun σ H Q=>ty σ H fun y H1=>td σ H1 fun x H2=>∃a o,x=.ref a/\fV H2 a y o/\Q (.bl o.isSome) H2
def GA(ty td:TE):TE:=fun σ H Q=>ty σ H fun y H1=>td σ H1 fun x H2=>∃a o,x=.ref a/\fV H2 a y o/\Q (.bl (!o.isSome)) H2
def IP(td ty tv:TE):TS:=fun D σ H=>tv σ H fun v H1=>td σ H1 fun x H2=>ty σ H2 fun y H3=>∃a H4,x=.ref a/\Cf H3 a y v H4/\D.nx σ H4
section
variable{X:Cx}{o i e value:Expr}{pos pos' tpos:Pos}{td ty tv:TE}
theorem GB(hu:X.A.units+1<cLine)(ho:PE X o td)(hi:PE X i ty)(hs:KN i):PE X (.Subscript o i pos) (NZ td ty):=by intro uW s σ H Q I h;refine Gz PySem.F.slot_dict_getitem.lookup hs (thn (ho uW s σ H _ I h) fun u s1 ⟨x,H1,I1,rx,q1⟩=>thn (hi uW s1 σ H1 _ I1 q1) fun iv s2 ⟨y,H2,I2,ry,a,v,ex,g,q2⟩=>?_);subst ex;obtain rfl:u=TQ a:=rx;exact⟨uf I2 g,AL hu I2 g ry fun w' s3 I3 rw'=>⟨v,H2,I3,rw',q2⟩⟩
theorem KP(hu:X.A.units+1<cLine)(hi:PE X i ty)(ho:PE X o td):PC X .In i o (Q2 ty td):=by intro uW s σ H Q I h;refine thn (hi uW s σ H _ I h) fun iv s1 ⟨y,H1,I1,ry,q1⟩=>thn (ho uW s1 σ H1 _ I1 q1) fun u s2 ⟨x,H2,I2,rx,a,ov,ex,g,q2⟩=>?_;subst ex;obtain rfl:u=TQ a:=rx;exact Cg hu I2 g ry fun s3 I3=>⟨.bl ov.isSome,H2,I3,rfl,q2⟩
theorem AO(hu:X.A.units+1<cLine)(hi:PE X i ty)(ho:PE X o td):PC X .NotIn i o (GA ty td):=by intro uW s σ H Q I h;refine thn (hi uW s σ H _ I h) fun iv s1 ⟨y,H1,I1,ry,q1⟩=>thn (ho uW s1 σ H1 _ I1 q1) fun u s2 ⟨x,H2,I2,rx,a,ov,ex,g,q2⟩=>?_;subst ex;obtain rfl:u=TQ a:=rx;exact Gy hu I2 g ry fun s3 I3=>⟨.bl (!ov.isSome),H2,I3,rfl,q2⟩
theorem GC(hu:X.A.units+1<cLine)(ho:PE X o td)(hi:PE X i ty)(hv:PE X value tv)(hs:swapsWith value (some (.Subscript o i pos')) pos.line X.env=pure false) :
  PS X (.Assign [.Subscript o i pos'] value pos) (IP td ty tv):=by
 intro uW s σ H D I h;refine wpAny_Assign_Subscript (thn (hv uW s σ H _ I h) fun r s1 ⟨v,H1,I1,rv,q1⟩=>thn (ho uW s1 σ H1 _ I1 q1) fun u s2 ⟨x,H2,I2,rx,q2⟩=>thn (hi uW s2 σ H2 _ I2 q2) fun iv s3 ⟨y,H3,I3,ry,a,H4,ex,g,q3⟩=>?_) hs;subst ex;obtain rfl:u=TQ a:=rx;exact AM hu I3 g ry rv fun s4 I4=>⟨σ,H4,I4,q3⟩
end
theorem ug{P:Program}{w:World}{H:Hp}(h:Heap)(hb:sysModules<h.objs.size):aT P w H (h.push { cls:=.type "dict",data:=.dict #[] }) h.objs.size (.dK []):=
 ⟨S6 _,beq_eq_false_iff_ne.mpr (Ne.symm (S7 hb)),[],.nil,Heap.DictOf.new h⟩
def Ci:TE:=fun _ H Q=>∀p,H p=none->Q (.ref p) (upd H p (.dK []))
section
variable{X:Cx}{pos:Pos}
theorem Cj:PE X (.Dict [] [] pos) Ci:=fun uW s σ H Q I h=>wpAny_Dict_empty ⟨.ref s.heap.objs.size,_,I.laid (a:=s.heap.objs.size) (o:=.dK []) (t':=s.toks) (fun _ _ q=>Sz _ q) (SA _) (ug s.heap I.big),rfl,h _ (I.hok.fresh (SA _))⟩
end
section
variable{trs:List (TE×TE)}{pos:Pos}{X:Cx}
def xr:List (TE×TE)->St->Hp->(List (V×V)->Hp->Prop)->Prop
 |[],_,H,Q=>Q [] H
 |(tk,tv)::r,σ,H,Q=>tk σ H fun x H1=>tv σ H1 fun y H2=>xr r σ H2 fun ps H3=>Q ((x,y)::ps) H3
noncomputable abbrev VV:List (V×V)->List (Value×Value)->Prop:=Paired fun p q=>RelV p.1 q.1/\RelV p.2 q.2
def PPs(X:Cx)(pos:Pos)(keys:List (Option Expr))(values:List Expr)(trs:List (TE×TE)):Prop:=
 ∀(uW:List (Addr×Obj)) (s:Shared) (σ:St) (H:Hp) (Q:List (V×V)->Hp->Prop),Inv X uW σ H s->xr trs σ H Q ->
  wpAny (model X.prog X.w) X.A (evalPairs (pairTrees keys values X.env pos)) (fun vs s'=>∃ps H',Inv X uW σ H' s'/\VV ps vs/\Q ps H') X.xe s
theorem GD:PPs X pos [] [] []:=fun uW s σ H Q I h=>pairTrees_nil_walk ⟨[],H,I,.nil,h⟩
theorem Ck{k v:Expr}{ks:List (Option Expr)}{vs:List Expr}{tk tv:TE}(hk:PE X k tk)(hv:PE X v tv)(hr:PPs X pos ks vs trs) :
  PPs X pos (some k::ks) (v::vs) ((tk,tv)::trs):=fun uW s σ H Q I h=>
 pairTrees_cons_walk (thn (hk uW s σ H _ I h) fun u s1 ⟨x,H1,I1,rx,q1⟩=>thn (hv uW s1 σ H1 _ I1 q1) fun w2 s2 ⟨y,H2,I2,ry,q2⟩=>thn (hr uW s2 σ H2 _ I2 q2) fun ws s3 ⟨ps,H3,I3,rel,q3⟩=>⟨(x,y)::ps,H3,I3,.cons ⟨rx,ry⟩ rel,q3⟩)
noncomputable def kL(kvs more:List (Key×V)):List (Key×V):=more.foldl (fun En kv=>putK En kv.1 kv.2) kvs
theorem KV.merge:∀{more:List (Key×V)} {rs:List (Key×Value)} {kvs:List (Key×V)} {vs:List (Key×Value)},KV more rs->KV kvs vs->KV (kL kvs more) (merged vs rs):=by
 intro more rs kvs vs r;unfold KV at r
 induction r generalizing kvs vs with
 |nil=>intro q;exact q
 |@cons p q ps qs h t ih=>
  intro r0;have e:KV (putK kvs p.1 p.2) (stored vs q.1 q.2):=by have:=r0.put p.1 h.2;rw[<- h.1];exact this
  exact ih e
theorem g9:∀(more kvs:List (Key×V)),(kL kvs more).length<=kvs.length+more.length
 |[],kvs=>by show kvs.length<=kvs.length+0;omega
 |p::r,kvs=>by have h1:=g9 r (putK kvs p.1 p.2);have h2:=f6 kvs p.1 p.2;show (kL (putK kvs p.1 p.2) r).length<=_;rw[S1];omega
theorem m9{P:Program}{w:World}:∀{kvs:List (Key×V)} {ws:List (Value×Value)},VV (kvs.map fun kv=>(kV kv.1,kv.2)) ws->∃rs,Carries (aU P w) ws rs/\KV kvs rs
 |[],_,r=>by rw[Vn]at r;cases r;exact⟨[],Uk,.nil⟩
 |p::kvs,_,r=>by
  rw[Sq]at r;cases r with
  |@cons a b as bs h t=>obtain⟨rs,c,q⟩:=m9 (P:=P) (w:=w) t;obtain⟨b1,b2⟩:=b;exact⟨(p.1,b2)::rs,⟨lI h.1,rfl,c⟩,.cons ⟨rfl,h.2⟩ q⟩
def IQ(trs:List (TE×TE)):TE:=fun σ H Q=>∀p,H p=none->xr trs σ (upd H p (.dK [])) fun ps H2=>H2 p=some (.dK [])/\∃kvs:List (Key×V),ps=kvs.map (fun kv=>(kV kv.1,kv.2))/\kvs.length<=15/\Q (.ref p) (upd H2 p (.dK (kL [] kvs)))
theorem GF{keys:List (Option Expr)}{values:List Expr}(h:PPs X pos keys values trs)(hall:keys.all (·.isSome)=true)(hl:keys.length=values.length)(h0:keys≠[])
  (h15:keys.length<=15):PE X (.Dict keys values pos) (IQ trs):=by
 intro uW s σ H Q I q;have hn:=I.hok.fresh (SA s.heap.objs.size);have I1:=I.laid (a:=s.heap.objs.size) (o:=.dK []) (h':=s.heap.push { cls:=.type "dict",data:=.dict #[] }) (t':=s.toks) (fun _ _ q=>Sz _ q) (SA _) (ug s.heap I.big);refine wpAny_Dict_walk (knd:=aU X.prog X.w) hall hl h0 h15 (thn (h uW _ σ _ _ I1 (q _ hn)) fun ws s2 ⟨ps,H2,I2,rel,e,kvs,ep,lk,q2⟩=>?_);subst ep;obtain⟨rs,c,rk⟩:=m9 (P:=X.prog) (w:=X.w) rel;obtain⟨z,hd,vs0,r0,dd⟩:=yT I2.hok e;cases r0;refine⟨rs,c,dd,fun h' dd' hs=>⟨.ref s.heap.objs.size,_,?_,rfl,q2⟩⟩;have hz:(kL [] kvs).length<=sizeLine:=by have h1:=g9 kvs [];rw[UM]at h1;rw[sizeLine_eq];omega
 have he:∃q,h'.get? s.heap.objs.size=some q:=let ⟨q,_,_,hq,_⟩:=dd';⟨q,hq⟩
 exact mG I2 (by rw[e];exact Uk) hs he (rW hz hd (rk.merge .nil) dd')
structure M1(X:Cx)(o:Expr)(m:Str)(Pz:Pos)(e:Expr)(cpos:Pos):Prop where
 base:attributeBase o m X.env (eval o X.env)=eval o X.env
 few:((backTo cpos (starEach [e] X.env)).all (fun x=>!x.1)&&(backToKw cpos (keywordEach [] X.env)).all (fun x=>x.1.isSome)
  && decide (([e]:List Expr).length+([]:List Keyword).length+(if ([]:List Keyword).isEmpty then 0 else 1)<30))=true
 line:(Pz.endLine == cpos.line)=true
 trees:backTo cpos (starEach [e] X.env)=[(false,eval e X.env)]
def IsD(H:Hp)(a:Addr):Prop:=(∃kvs,Rd H a (.dK kvs))\/∃kvs,Rd H a (.dT kvs)
theorem Cm{uW:List (Addr×Obj)}{σ:St}{H:Hp}{s:Shared}{a:Addr}(I:Inv X uW σ H s)(d:IsD H a) :
  s.TypeIs (.ref a) "dict" /\ (∀b,TQ a=.ref b->∃ob,s.heap.get? b=some ob/\ob.dict=none)/\(a == sysModules)=false:=by
 rcases d with⟨kvs,e⟩ | ⟨kvs,e⟩
 ·obtain⟨_,hd,vs,_,dd⟩:=lJ I.hok e;refine⟨dd.typeIs,fun b q=>?_,hd⟩;cases q;obtain⟨ob,_,_,h1,h2,_⟩:=dd;exact⟨ob,h1,h2.2.1⟩
 ·obtain⟨_,hd,xs,_,dd⟩:=m8 I.hok e;refine⟨dd.typeIs,fun b q=>?_,hd⟩;cases q;obtain⟨ob,_,_,h1,h2,_⟩:=dd;exact⟨ob,h1,h2.2.1⟩
end
section
variable{X:Cx}{uW:List (Addr×Obj)}{σ:St}{H:Hp}{s:Shared}{a:Addr}{y d:V}{u r:Value}{o:Option V}{A:Around}{E:Value->Shared->Prop}
theorem KQ{Q:Value->Shared->Prop}(hu:A.units+1<cLine)(I:Inv X uW σ H s)(g:fV H a y o)(ry:RelV y u)(h:∀w' s',Inv X uW σ H s'->RelV (o.getD .non) w'->Q w' s') :
  wpAny (model X.prog X.w) A (call (.builtin "dict.get") [.ref a,u]) Q E s:=by
 rcases g with⟨kvs,k,e,ey,l⟩ | ⟨kvs,k,b,e,ey,eb,l⟩
 ·subst ey;obtain⟨z,hd,vs,rel,dd⟩:=lJ I.hok e;refine call_meetsIn Vk dd.typeIs PySem.F.entry_dict_get (PySem.F.args_dict_get_2 _ _) (meets_dict_get (aU X.prog X.w) a (lI ry) hd) ⟨_,dd.mapOf,h _ _ (I.tok _) ?_⟩;rw[l];exact(rel.val k).getD rfl
 ·subst ey;cases (show u=TQ b from ry);obtain⟨z,hd,xs,rel,dd⟩:=m8 I.hok e;refine call_meetsIn Vk dd.typeIs PySem.F.entry_dict_get (PySem.F.args_dict_get_2 _ _) (meetsH_dict_get (tupleKind (aU X.prog X.w)) a b hd) ⟨tupleKind_room_in1 hu,k,xs,kK I.hok eb,dd,h _ _ (I.tok _) ?_⟩;rw[l];exact(rel.val k).getD rfl
end
def Cn(td ty:TE):TE:=fun σ H Q=>td σ H fun x H1=>∃a,x=.ref a/\IsD H1 a/\ty σ H1 fun y H2=>∃o,fV H2 a y o/\Q (o.getD .non) H2
def Co(td ty:TE):TE:=fun σ H Q=>td σ H fun x H1=>∃a,x=.ref a/\IsD H1 a/\ty σ H1 fun y H2=>∃kvs k v,H2 a=some (.dK kvs)/\y=kV k/\iu kvs k=some v/\Q v (upd H2 a (.dK (lH kvs k)))
section
variable{X:Cx}{o e f:Expr}{Pz cpos:Pos}{td ty tx:TE}
theorem Cp(hu:X.A.units+1<cLine)(ho:PE X o td)(he:PE X e ty)(m:M1 X o "get" Pz e cpos):PE X (.Call (.Attribute o "get" Pz) [e] [] cpos) (Cn td ty):=by intro uW s σ H Q I h;refine wpAny_Call_method m.base m.few m.line PySem.F.plainAttrs_dict Vk PySem.F.type_dict_get (thn (ho uW s σ H _ I h) fun u s1 ⟨x,H1,I1,rx,a,ex,d,q1⟩=>?_);subst ex;obtain rfl:u=TQ a:=rx;obtain⟨t1,t2,_⟩:=Cm I1 d;refine⟨t1,t2,?_⟩;rw[m.trees];refine UO rfl (Vm (VC (thn (he uW s1 σ H1 _ I1 q1) fun iv s2 ⟨y,H2,I2,ry,ov,g,q2⟩=>Um ?_)));exact KQ hu I2 g ry fun w' s3 I3 rw'=>⟨_,H2,I3,rw',q2⟩
theorem Cq(ho:PE X o td)(he:PE X e ty)(m:M1 X o "pop" Pz e cpos):PE X (.Call (.Attribute o "pop" Pz) [e] [] cpos) (Co td ty):=by intro uW s σ H Q I h;refine wpAny_Call_method m.base m.few m.line PySem.F.plainAttrs_dict PySem.F.slot_dict_pop PySem.F.type_dict_pop (thn (ho uW s σ H _ I h) fun u s1 ⟨x,H1,I1,rx,a,ex,d,q1⟩=>?_);subst ex;obtain rfl:u=TQ a:=rx;obtain⟨t1,t2,_⟩:=Cm I1 d;refine⟨t1,t2,?_⟩;rw[m.trees];refine UO rfl (Vm (VC (thn (he uW s1 σ H1 _ I1 q1) fun iv s2 ⟨y,H2,I2,ry,kvs,k,v,ea,ey,l,q2⟩=>Um ?_)));subst ey;exact NY I2 ea ry l (.inl rfl) fun w' s3 I3 rw'=>⟨v,_,I3,rw',q2⟩
end
section
variable{X:Cx}{uW:List (Addr×Obj)}{σ:St}{H:Hp}{s:Shared}{a:Addr}{kvs:List (Key×V)}{A:Around}{E:Value->Shared->Prop}
theorem Cr{Q:Value->Shared->Prop}(I:Inv X uW σ H s)(e:Rd H a (.dK kvs))(h:∀p s',H p=none->Inv X uW σ (upd H p (.dK kvs)) s'->Q (.ref p) s'):wpAny (model X.prog X.w) A (call (.type "dict") [.ref a]) Q E s:=by obtain⟨z,hd,vs,rel,dd⟩:=lJ I.hok e;refine kt_call_dict hd dd (by rw[<- rel.length];exact z) fun h' dd' hs=>?_;refine h _ _ (I.hok.fresh (SA _)) (I.laid (a:=s.heap.objs.size) (o:=.dK kvs) (t':=s.toks) (fun b q hq=>?_) (SA _) (rW z (beq_eq_false_iff_ne.mpr (Ne.symm (S7 I.big))) rel dd'));exact(hs.2 b (S7 (SI hq))).trans (Sz _ hq)
end
end L2
namespace Dm
inductive Dat where
 |non
 |bl (b:Bool)
 |int (i:Int)
 |str (s:List Nat)
 |tup (xs:List Dat)
 |lst (xs:List Dat)
 |dct (ks:List Int) (vs:List Dat)
 |exc (C:Nat)
 |fn (a:Nat)
deriving Inhabited
inductive Cell where
 |un
 |sh (d:Dat)
 |ow (d:Dat)
deriving Inhabited
noncomputable abbrev Env:=List Cell
inductive Val where
 |val (d:Dat)
 |slot (i:Nat)
 |new (d:Dat)
inductive RV where
 |val (d:Dat)
 |new (d:Dat)
noncomputable def RV.dat:RV->Dat
 |.val d=>d
 |.new d=>d
noncomputable def RV.bD:RV->Val
 |.val d=>.val d
 |.new d=>.new d
noncomputable def SZ:Nat:=100000
noncomputable def dg:Dat->Bool
 |.tup _=>true
 |.lst _=>true
 |.dct _ _=>true
 |.exc _=>true
 |_=>false
noncomputable def pk(ρ:Env):Val->Option Dat
 |.val d=>some d
 |.new d=>some d
 |.slot i=>match ρ[i]? with
  |some (.ow d)=>some d
  |some (.sh d)=>some d
  |_=>none
noncomputable def tk(ρ:Env):Val->Option (Dat×Env)
 |.val d=>some (d,ρ)
 |.new d=>some (d,ρ)
 |.slot i=>match ρ[i]? with
  |some (.ow d)=>some (d,ρ.set i (.sh d))
  |some (.sh d)=>some (d,ρ)
  |_=>none
noncomputable def pks(ρ:Env):List Val->Option (List Dat)
 |[]=>some []
 |x::r=>match pk ρ x with
  |none=>none
  |some d=>match pks ρ r with
   |none=>none
   |some ds=>some (d::ds)
noncomputable def tks(ρ:Env):List Val->Option (List Dat×Env)
 |[]=>some ([],ρ)
 |x::r=>match tk ρ x with
  |none=>none
  |some (d,ρ1)=>match tks ρ1 r with
   |none=>none
   |some (ds,ρ2)=>some (d::ds,ρ2)
noncomputable abbrev FE:=Env->Option (Val×Env)
noncomputable abbrev FT:=Env->Option (Bool×Env)
noncomputable def eC(d:Dat):FE:=fun ρ=>some (.val d,ρ)
noncomputable def eV(i:Nat):FE:=fun ρ=>match ρ[i]? with
 |some (.sh d)=>some (.val d,ρ)
 |some (.ow _)=>some (.slot i,ρ)
 |_=>none
noncomputable def e1(g:Dat->Option RV)(a:FE):FE:=fun ρ=>match a ρ with
 |none=>none
 |some (x,ρ1)=>match pk ρ1 x with
  |none=>none
  |some d=>match g d with
   |none=>none
   |some v=>some (v.bD,ρ1)
noncomputable def e2(g:Dat->Dat->Option RV)(a b:FE):FE:=fun ρ=>match a ρ with
 |none=>none
 |some (x,ρ1)=>match b ρ1 with
  |none=>none
  |some (y,ρ2)=>match pk ρ2 x with
   |none=>none
   |some d=>match pk ρ2 y with
    |none=>none
    |some e=>match g d e with
     |none=>none
     |some v=>some (v.bD,ρ2)
noncomputable def eAs:List FE->Env->Option (List Val×Env)
 |[],ρ=>some ([],ρ)
 |a::r,ρ=>match a ρ with
  |none=>none
  |some (x,ρ1)=>match eAs r ρ1 with
   |none=>none
   |some (xs,ρ2)=>some (x::xs,ρ2)
noncomputable def eB(g:List Dat->Option RV)(as:List FE):FE:=fun ρ=>match eAs as ρ with
 |none=>none
 |some (xs,ρ1)=>match pks ρ1 xs with
  |none=>none
  |some ds=>match g ds with
   |none=>none
   |some v=>some (v.bD,ρ1)
noncomputable def iw(as:List FE):FE:=fun ρ=>match eAs as ρ with
 |none=>none
 |some (xs,ρ1)=>match tks ρ1 xs with
  |none=>none
  |some (ds,ρ2)=>if ds.length<=SZ then some (.val (.tup ds),ρ2) else none
noncomputable def f7(as:List FE):FE:=fun ρ=>match eAs as ρ with
 |none=>none
 |some (xs,ρ1)=>match tks ρ1 xs with
  |none=>none
  |some (ds,ρ2)=>if ds.length<=SZ then some (.new (.lst ds),ρ2) else none
noncomputable def eF(f:List Dat->Option RV)(as:List FE):FE:=fun ρ=>match eAs as ρ with
 |none=>none
 |some (xs,ρ1)=>match pks ρ1 xs with
  |none=>none
  |some ds=>match f ds with
   |none=>none
   | some v=>if dg v.dat then (match tks ρ1 xs with
     |none=>none
     |some (_,ρ2)=>some (v.bD,ρ2)) else some (v.bD,ρ1)
noncomputable def eIf(t:FT)(a b:FE):FE:=fun ρ=>match t ρ with
 |none=>none
 |some (true,ρ1)=>a ρ1
 |some (false,ρ1)=>b ρ1
noncomputable def eO(a b:FE):FE:=fun ρ=>match a ρ with
 |some (.val (.bl true),ρ1)=>b ρ1
 |some (.val (.bl false),ρ1)=>some (.val (.bl false),ρ1)
 |_=>none
noncomputable def xu(a:FE):FE:=fun ρ=>match a ρ with
 |some (.val (.bl c),ρ1)=>some (.val (.bl (!c)),ρ1)
 |_=>none
noncomputable def tV(a:FE):FT:=fun ρ=>match a ρ with
 |some (.val (.bl c),ρ1)=>some (c,ρ1)
 |_=>none
noncomputable def b8(t:FT):FT:=fun ρ=>match t ρ with
 |some (c,ρ1)=>some (!c,ρ1)
 |none=>none
noncomputable def mU(t u:FT):FT:=fun ρ=>match t ρ with
 |some (true,ρ1)=>u ρ1
 |some (false,ρ1)=>some (false,ρ1)
 |none=>none
noncomputable def tOr(t u:FT):FT:=fun ρ=>match t ρ with
 |some (true,ρ1)=>some (true,ρ1)
 |some (false,ρ1)=>u ρ1
 |none=>none
noncomputable def truth:Dat->Option Bool
 |.non=>some false
 |.bl b=>some b
 |.int i=>some (i != 0)
 |.tup xs=>some (!xs.isEmpty)
 |.lst xs=>some (!xs.isEmpty)
 |_=>none
noncomputable def tTr(a:FE):FT:=fun ρ=>match a ρ with
 |none=>none
 |some (x,ρ1)=>match pk ρ1 x with
  |none=>none
  |some d=>match truth d with
   |none=>none
   |some c=>some (c,ρ1)
noncomputable def dZ:FT:=fun ρ=>some (true,ρ)
noncomputable abbrev FI:=Env->Option (List Dat×Env)
noncomputable def iL(a:FE):FI:=fun ρ=>match a ρ with
 |none=>none
 |some (x,ρ1)=>match tk ρ1 x with
  |some (.lst ds,ρ2)=>some (ds,ρ2)
  |_=>none
noncomputable def iT(a:FE):FI:=fun ρ=>match a ρ with
 |none=>none
 |some (x,ρ1)=>match tk ρ1 x with
  |some (.tup ds,ρ2)=>some (ds,ρ2)
  |_=>none
noncomputable def iS(a:FE):FI:=fun ρ=>match a ρ with
 |none=>none
 |some (x,ρ1)=>match tk ρ1 x with
  |some (.lst ds,ρ2)=>some (ds,ρ2)
  |some (.tup ds,ρ2)=>some (ds,ρ2)
  |_=>none
noncomputable def ups(lo:Int)(n:Nat):List Dat:=(SH n).map fun i=>Dat.int (lo+(i:Nat))
noncomputable def downs(hi:Int)(n:Nat):List Dat:=(SH n).map fun i=>Dat.int (hi-(i:Nat))
noncomputable def BIG:Int:=1000000000
noncomputable def iR1(a:FE):FI:=fun ρ=>match a ρ with
 |some (.val (.int j),ρ1)=>if j<=BIG/\-BIG<=j then some (ups 0 j.toNat,ρ1) else none
 |_=>none
noncomputable def iR2(a b:FE):FI:=fun ρ=>match a ρ with
 | some (.val (.int i),ρ1)=>(match b ρ1 with
  |some (.val (.int j),ρ2)=>if j<=BIG/\-BIG<=j/\i<=BIG/\-BIG<=i then some (ups i (j-i).toNat,ρ2) else none
  |_=>none)
 |_=>none
noncomputable abbrev FB:=Dat->Env->Option Env
noncomputable def bN(i:Nat):FB:=fun d ρ=>if i=0 then none else some (ρ.set i (.sh d))
noncomputable def sets:List Nat->List Dat->Env->Option Env
 |[],[],ρ=>some ρ
 |i::is,d::ds,ρ=>if i=0 then none else sets is ds (ρ.set i (.sh d))
 |_,_,_=>none
noncomputable def bT(is:List Nat):FB:=fun d ρ=>match d with
 |.tup ds=>sets is ds ρ
 |_=>none
noncomputable def d7(bd:FB)(t:FT)(el:FE):List Dat->Env->List Dat->Option (List Dat×Env)
 |[],ρ,En=>some (En,ρ)
 |d::r,ρ,En=>match bd d ρ with
  |none=>none
  |some ρ1=>match t ρ1 with
   |none=>none
   |some (false,ρ2)=>d7 bd t el r ρ2 En
   |some (true,ρ2)=>match el ρ2 with
    |none=>none
    |some (x,ρ3)=>match tk ρ3 x with
     |none=>none
     |some (y,ρ4)=>d7 bd t el r ρ4 (En++[y])
noncomputable def cC(it:FI)(own:Nat)(bd:FB)(t:FT)(el:FE):FE:=fun ρ=>match it ρ with
 |none=>none
 | some (ds,ρ1)=>if ds.length≤SZ then (match d7 bd t el ds (ρ1++Sv own .un) [] with
  |none=>none
  |some (ys,ρ2)=>some (.new (.lst ys),ρ2.take ρ1.length)) else none
inductive Out where
 |nx (ρ:Env)
 |ret (r:RV) (ρ:Env)
 |bk (ρ:Env)
 |ct (ρ:Env)
noncomputable abbrev FS:=Env->Option Out
noncomputable def sNx:FS:=fun ρ=>some (.nx ρ)
noncomputable def aC(s u:FS):FS:=fun ρ=>match s ρ with
 |some (.nx ρ1)=>u ρ1
 |o=>o
noncomputable def sA(i:Nat)(e:FE):FS:=fun ρ=>if i=0 then none else match e ρ with
 |none=>none
 |some (.new d,ρ1)=>some (.nx (ρ1.set i (.ow d)))
 |some (x,ρ1)=>match tk ρ1 x with
  |none=>none
  |some (d,ρ2)=>some (.nx (ρ2.set i (.sh d)))
noncomputable def sE(e:FE):FS:=fun ρ=>match e ρ with
 |none=>none
 |some (_,ρ1)=>some (.nx ρ1)
noncomputable def sR(e:FE):FS:=fun ρ=>match e ρ with
 |none=>none
 |some (.new d,ρ1)=>some (.ret (.new d) ρ1)
 |some (.val d,ρ1)=>some (.ret (.val d) ρ1)
 |some (.slot i,ρ1)=>match ρ1[i]? with
  |some (.ow d)=>some (.ret (.new d) (ρ1.set i .un))
  |some (.sh d)=>some (.ret (.val d) ρ1)
  |_=>none
noncomputable def sIf(t:FT)(a b:FS):FS:=fun ρ=>match t ρ with
 |none=>none
 |some (true,ρ1)=>a ρ1
 |some (false,ρ1)=>b ρ1
noncomputable def rX(i:Nat)(e:FE):FS:=fun ρ=>match ρ[i]? with
 | some (.ow (.lst _))=>(match e ρ with
  |none=>none
  |some (x,ρ1)=>match tk ρ1 x with
   |none=>none
   |some (d,ρ2)=>match ρ2[i]? with
    |some (.ow (.lst ds))=>if ds.length<SZ then some (.nx (ρ2.set i (.ow (.lst (ds++[d]))))) else none
    |_=>none)
 |_=>none
noncomputable def ixN(n:Nat)(i:Int):Option Nat:=
 if 0<=i then (if i<n then some i.toNat else none) else if -(n:Int)<=i then some (i+n).toNat else none
noncomputable def xw(i:Nat)(j e:FE):FS:=fun ρ=>match e ρ with
 |none=>none
 |some (x,ρ1)=>match tk ρ1 x with
  |none=>none
  |some (d,ρ2)=>match ρ2[i]? with
   | some (.ow _)=>(match j ρ2 with
    | some (.val (.int k),ρ3)=>(match ρ3[i]? with
     | some (.ow (.lst ds))=>(match ixN ds.length k with
      |none=>none
      |some m=>some (.nx (ρ3.set i (.ow (.lst (ds.set m d))))))
     |_=>none)
    |_=>none)
   |_=>none
noncomputable def kM(bd:FB)(body:FS):List Dat->FS
 |[],ρ=>some (.nx ρ)
 |d::r,ρ=>match bd d ρ with
  |none=>none
  |some ρ1=>match body ρ1 with
   |some (.nx ρ2)=>kM bd body r ρ2
   |some (.ct ρ2)=>kM bd body r ρ2
   |some (.bk ρ2)=>some (.nx ρ2)
   |some (.ret v ρ2)=>some (.ret v ρ2)
   |none=>none
noncomputable def gX(it:FI)(bd:FB)(body:FS):FS:=fun ρ=>match it ρ with
 |none=>none
 |some (ds,ρ1)=>kM bd body ds ρ1
noncomputable def whD(t:FT)(body:FS):Nat->FS
 |0,_=>none
 |n+1,ρ=>match t ρ with
  |none=>none
  |some (false,ρ1)=>some (.nx ρ1)
  |some (true,ρ1)=>match body ρ1 with
   |some (.nx ρ2)=>whD t body n ρ2
   |some (.ct ρ2)=>whD t body n ρ2
   |some (.bk ρ2)=>some (.nx ρ2)
   |some (.ret v ρ2)=>some (.ret v ρ2)
   |none=>none
noncomputable def fn(n m:Nat)(body:FS)(ds:List Dat):Option RV:=if ds.length=n then (match body (ds.map Cell.sh++Sv m .un) with
 |some (.ret r _)=>some r
 |some (.nx _)=>some (.val .non)
 |_=>none) else none
noncomputable def b2i(b:Bool):Int:=if b then 1 else 0
mutual
noncomputable def eqD:Dat->Dat->Bool
 |.non,.non=>true
 |.bl a,.bl b=>a == b
 |.bl a,.int j=>b2i a == j
 |.int i,.bl b=>i == b2i b
 |.int i,.int j=>i == j
 |.str a,.str b=>a == b
 |.tup xs,.tup ys=>jS xs ys
 |.lst xs,.lst ys=>jS xs ys
 |_,_=>false
noncomputable def jS:List Dat->List Dat->Bool
 |[],[]=>true
 |x::xs,y::ys=>eqD x y&&jS xs ys
 |_,_=>false
end
noncomputable def okD:Nat->Dat->Bool
 |_,.dct _ _=>false
 |_,.exc _=>false
 |_,.fn _=>false
 |_,.str s=>s.all fun c=>decide (c<128)
 |0,.tup _=>false
 |0,.lst _=>false
 |n+1,.tup xs=>xs.all (okD n)
 |n+1,.lst xs=>xs.all (okD n)
 |_,_=>true
noncomputable abbrev vB(b:Bool):Option RV:=some (.val (.bl b))
noncomputable def jT(p:Dat->Bool):Dat->Option RV
 |.exc _=>none
 |.fn _=>none
 |d=>vB (p d)
noncomputable abbrev vI(i:Int):Option RV:=some (.val (.int i))
noncomputable def gEq(x y:Dat):Option RV:=if okD 8 x&&okD 8 y then vB (eqD x y) else none
noncomputable def gNe(x y:Dat):Option RV:=if okD 8 x&&okD 8 y then vB (!eqD x y) else none
noncomputable def gLt:Dat->Dat->Option RV
 |.int i,.int j=>vB (decide (i<j))
 |_,_=>none
noncomputable def gLe:Dat->Dat->Option RV
 |.int i,.int j=>vB (decide (i<=j))
 |_,_=>none
noncomputable def gGt:Dat->Dat->Option RV
 |.int i,.int j=>vB (decide (j<i))
 |_,_=>none
noncomputable def gGe:Dat->Dat->Option RV
 |.int i,.int j=>vB (decide (j<=i))
 |_,_=>none
noncomputable def B64:Int:=18446744073709551616
noncomputable def bw:Dat->Dat->Option RV
 |.int i,.int j=>vI (i+j)
 |.lst xs,.lst ys=>if xs.length+ys.length<=SZ then some (.new (.lst (xs++ys))) else none
 |_,_=>none
noncomputable def ir:Dat->Dat->Option RV
 |.int i,.int j=>vI (i-j)
 |_,_=>none
noncomputable def iy:Dat->Dat->Option RV
 |.int i,.int j=>if (-B64<i/\i<B64)\/(-B64<j/\j<B64) then vI (i*j) else none
 |.lst xs,.int k=>if k<=BIG/\-BIG<=k/\xs.length*k.toNat<=SZ then some (.new (.lst (Sv k.toNat xs).flatten)) else none
 |_,_=>none
noncomputable def gY:Int:=1606938044258990275541962092341162602522202993782792835301376
noncomputable def xx:Dat->Dat->Option RV
 |.int i,.int j=>if 0<j/\j<gY then vI (i / j) else none
 |_,_=>none
noncomputable def f9:Dat->Dat->Option RV
 |.int i,.int j=>if 0<j then vI (i % j) else none
 |_,_=>none
noncomputable def iz:Dat->Dat->Option RV
 |.int i,.int j=>if 0<=j/\j<=1000000/\i.natAbs<1000000 then vI (i ^ j.toNat) else none
 |_,_=>none
noncomputable def atI(xs:List Dat)(i:Int):Option Dat:=(ixN xs.length i).bind fun j=>xs[j]?
noncomputable def gIx:Dat->Dat->Option RV
 |.lst xs,.int i=>(atI xs i).map .val
 |.tup xs,.int i=>(atI xs i).map .val
 |_,_=>none
noncomputable def inD(x:Dat)(xs:List Dat):Bool:=xs.any fun y=>eqD y x
noncomputable def gIn:Dat->Dat->Option RV
 |x,.lst xs=>if okD 8 x&&xs.all (okD 7) then vB (inD x xs) else none
 |x,.tup xs=>if okD 8 x&&xs.all (okD 7) then vB (inD x xs) else none
 |_,_=>none
noncomputable def cZ:Dat->Dat->Option RV
 |x,.lst xs=>if okD 8 x&&xs.all (okD 7) then vB (!inD x xs) else none
 |x,.tup xs=>if okD 8 x&&xs.all (okD 7) then vB (!inD x xs) else none
 |_,_=>none
noncomputable def sIx(n d:Nat):Option Int->Nat
 |none=>d
 |some v=>(if v<0 then max (v+n) 0 else min v n).toNat
noncomputable def cut(xs:List Dat)(lo hi:Option Int):List Dat:=(xs.drop (sIx xs.length 0 lo)).take (sIx xs.length xs.length hi-sIx xs.length 0 lo)
noncomputable def dN:List Dat->Option RV
 |[.lst xs]=>vI xs.length
 |[.tup xs]=>vI xs.length
 |_=>none
noncomputable def lO:List Dat->Option RV
 |[.int i,.int j]=>vI (if j<i then j else i)
 |_=>none
noncomputable def lP:List Dat->Option RV
 |[.int i,.int j]=>vI (if j>i then j else i)
 |_=>none
noncomputable def qJ:List Dat->Option RV
 |[.lst xs]=>some (.new (.lst xs))
 |[.tup xs]=>some (.new (.lst xs))
 |_=>none
noncomputable def ng:List Dat->Option RV
 |[.lst xs]=>some (.val (.tup xs))
 |[.tup xs]=>some (.val (.tup xs))
 |_=>none
noncomputable def isI:Dat->Bool
 |.int _=>true
 |.bl _=>true
 |_=>false
noncomputable def isB:Dat->Bool
 |.bl _=>true
 |_=>false
noncomputable def isL:Dat->Bool
 |.lst _=>true
 |_=>false
noncomputable def isT:Dat->Bool
 |.tup _=>true
 |_=>false
noncomputable def bools:List Dat->Option (List Bool)
 |[]=>some []
 |.bl b::r=>(bools r).map fun bs=>b::bs
 |_=>none
noncomputable def rY:List Dat->Option RV
 | [.lst xs]=>(match bools xs with
  |some bs=>vB (bs.all id)
  |none=>none)
 |_=>none
noncomputable def f_(g h:Dat->Dat->Option RV)(a b c:FE):FE:=fun ρ=>match a ρ with
 |none=>none
 |some (x,ρ1)=>match b ρ1 with
  |none=>none
  |some (y,ρ2)=>match pk ρ2 x with
   |none=>none
   |some d=>match pk ρ2 y with
    |none=>none
    |some e=>match g d e with
     | some (.val (.bl true))=>(match c ρ2 with
      |none=>none
      |some (z,ρ3)=>match pk ρ3 y with
       |none=>none
       |some e'=>match pk ρ3 z with
        |none=>none
        |some f=>match h e' f with
         |none=>none
         |some v=>some (v.bD,ρ3))
     |some (.val (.bl false))=>some (.val (.bl false),ρ2)
     |_=>none
noncomputable def part:Option FE->Env->Option (Option Int×Env)
 |none,ρ=>some (none,ρ)
 |some f,ρ=>match f ρ with
  |some (.val (.int i),ρ1)=>some (some i,ρ1)
  |_=>none
noncomputable def eSl(a:FE)(lo hi:Option FE):FE:=fun ρ=>match a ρ with
 |none=>none
 |some (x,ρ1)=>match part lo ρ1 with
  |none=>none
  |some (l,ρ2)=>match part hi ρ2 with
   |none=>none
   |some (h,ρ3)=>match pk ρ3 x with
    |some (.lst xs)=>some (.new (.lst (cut xs l h)),ρ3)
    |_=>none
noncomputable def mz:List Dat->Option RV
 |[.int i]=>vI i
 |[.bl b]=>vI (b2i b)
 |_=>none
end Dm
namespace Br
open PySem L2
mutual
inductive Rep(H:Hp):V->Dm.Dat->Prop
 |non:Rep H V.non Dm.Dat.non
 |bl (b:Bool):Rep H (V.bl b) (Dm.Dat.bl b)
 |int (i:Int):Rep H (V.int i) (Dm.Dat.int i)
 |str (s:List Nat):Rep H (V.str ⟨s.toArray⟩) (Dm.Dat.str s)
 |tup {a:Addr} {xs:List V} {ds:List Dm.Dat}:H a=some (.tup xs)->az H xs ds->Rep H (V.ref a) (Dm.Dat.tup ds)
 |lst {a:Addr} {xs:List V} {ds:List Dm.Dat}:Rd H a (.lst xs)->az H xs ds->Rep H (V.ref a) (Dm.Dat.lst ds)
 |dct {a:Addr} {kvs:List (Key×V)} {ks:List Int} {ds:List Dm.Dat}:H a=some (.dK kvs)->kvs.map (·.1)=ks.map Te->az H (kvs.map (·.2)) ds->Rep H (V.ref a) (Dm.Dat.dct ks ds)
 |exc {a:Addr} {C:Nat}:H a=some (.ext fun h=>∃o,h.get? a=some o/\o.cls=.ref C)->Rep H (V.ref a) (Dm.Dat.exc C)
 |fn (a:Addr):Rep H (V.ref a) (Dm.Dat.fn a)
inductive az(H:Hp):List V->List Dm.Dat->Prop
 |nil:az H [] []
 |cons {v:V} {d:Dm.Dat} {vs:List V} {ds:List Dm.Dat}:Rep H v d->az H vs ds->az H (v::vs) (d::ds)
end
theorem ak.rd{H H':Hp}(s:ak H H'){a:Addr}{u:HO}(h:Rd H a u):Rd H' a u:=by
 rcases h with h | ⟨o,h⟩
 ·exact .inl (s _ _ h)
 ·exact .inr ⟨o,s _ _ h⟩
mutual
theorem Rep.mono{H H':Hp}(s:ak H H'):∀{v:V} {d:Dm.Dat},Rep H v d->Rep H' v d
 |_,_,.non=>.non
 |_,_,.bl b=>.bl b
 |_,_,.int i=>.int i
 |_,_,.str x=>.str x
 |_,_,.tup h r=>.tup (s _ _ h) (az.mono s r)
 |_,_,.lst h r=>.lst (ak.rd s h) (az.mono s r)
 |_,_,.dct h e r=>.dct (s _ _ h) e (az.mono s r)
 |_,_,.exc h=>.exc (s _ _ h)
 |_,_,.fn a=>.fn a
theorem az.mono{H H':Hp}(s:ak H H'):∀{vs:List V} {ds:List Dm.Dat},az H vs ds->az H' vs ds
 |_,_,.nil=>.nil
 |_,_,.cons h r=>.cons (Rep.mono s h) (az.mono s r)
end
section
variable{ρ:Dm.Env}{H0 H:Hp}{d:Dm.Dat}{σ:St}{a:Addr}{x:Dm.Val}{v:V}{X:Cx}{t t':TS}{p:Addr}{e:Expr}{o:HO}
theorem az.length{H:Hp}:∀{vs:List V} {ds:List Dm.Dat},az H vs ds->vs.length=ds.length
 |_,_,.nil=>rfl
 |_,_,.cons _ r=>by simp[az.length r]
theorem az.get{H:Hp}:∀{vs:List V} {ds:List Dm.Dat} {i:Nat} {d:Dm.Dat},az H vs ds->ds[i]?=some d->∃v,vs[i]?=some v/\Rep H v d
 |_,_,_,_,.nil,e=>by simp at e
 |_,_,0,_,.cons h _,e=>by simp at e;subst e;exact⟨_,rfl,h⟩
 |_,_,i+1,_,.cons _ r,e=>by obtain⟨v,h1,h2⟩:=az.get (i:=i) r (by simpa using e);exact⟨v,by simpa using h1,h2⟩
theorem az.append{H:Hp}:∀{vs ws:List V} {ds es:List Dm.Dat},az H vs ds->az H ws es->az H (vs++ws) (ds++es)
 |_,_,_,_,.nil,s=>s
 |_,_,_,_,.cons h r,s=>.cons h (az.append r s)
theorem az.take{H:Hp}:∀{vs:List V} {ds:List Dm.Dat} (n:Nat),az H vs ds->az H (vs.take n) (ds.take n)
 |_,_,0,_=>by simpa using az.nil
 |_,_,_+1,.nil=>by simpa using az.nil
 |_,_,n+1,.cons h r=>by simpa using az.cons h (az.take n r)
theorem az.drop{H:Hp}:∀{vs:List V} {ds:List Dm.Dat} (n:Nat),az H vs ds->az H (vs.drop n) (ds.drop n)
 |_,_,0,r=>by simpa using r
 |_,_,_+1,.nil=>by simpa using az.nil
 |_,_,n+1,.cons _ r=>by simpa using az.drop n r
theorem az.set{H:Hp}(h:Rep H v d):∀{vs:List V} {ds:List Dm.Dat} (i:Nat),az H vs ds->az H (vs.set i v) (ds.set i d)
 |_,_,_,.nil=>.nil
 |_,_,0,.cons _ r=>.cons h r
 |_,_,i+1,.cons q r=>.cons q (az.set h i r)
theorem az.rep{H:Hp}{vs:List V}{ds:List Dm.Dat}(r:az H vs ds):∀k:Nat,az H (Sv k vs).flatten (Sv k ds).flatten
 |0=>by simpa using az.nil
 |k+1=>by rw[Ug,Ug,TF,TF];exact az.append r (az.rep r k)
def Own(H0 H:Hp)(a:Addr):Dm.Dat->Prop
 |.lst ds=>∃xs,H a=some (.lst xs)/\az H0 xs ds
 |.dct ks ds=>∃kvs:List (Key×V),H a=some (.dK kvs)/\kvs.map (·.1)=ks.map Te/\az H0 (kvs.map (·.2)) ds
 |_=>False
theorem Own.some(h:Own H0 H a d):∃o,H a=some o:=by
 cases d with
 |lst ds=>obtain⟨xs,e,_⟩:=h;exact⟨_,e⟩
 |dct ks ds=>obtain⟨xs,e,_⟩:=h;exact⟨_,e⟩
 |_=>exact Tt h
theorem Own.mono{H0 H H0' H':Hp}(h:Own H0 H a d)(s:ak H0 H0')(e:H' a=H a):Own H0' H' a d:=by
 cases d with
 |lst ds=>obtain⟨xs,q,r⟩:=h;exact⟨xs,by rw[e];exact q,r.mono s⟩
 |dct ks ds=>obtain⟨xs,q,k,r⟩:=h;exact⟨xs,by rw[e];exact q,k,r.mono s⟩
 |_=>exact Tt h
def kO(H0 H:Hp)(v:V)(d:Dm.Dat):Prop:=Rep H0 v d\/∃a,v=V.ref a/\Own H0 H a d
inductive uh(H0 H:Hp):List V->List Dm.Dat->Prop
 |nil:uh H0 H [] []
 |cons {v:V} {d:Dm.Dat} {vs:List V} {ds:List Dm.Dat}:kO H0 H v d->uh H0 H vs ds->uh H0 H (v::vs) (d::ds)
noncomputable def shr(H0 H:Hp)(a:Addr):Hp:=fun b=>if b=a then H a else H0 b
theorem eS:shr H0 H a a=H a:=by unfold shr;rw[if_pos rfl]
theorem iA{a b:Addr}(h:b≠a):shr H0 H a b=H0 b:=by unfold shr;rw[if_neg h]
theorem jU(h:H0 a=none):ak H0 (shr H0 H a):=fun b o e=>by
 by_cases q:b=a
 ·subst q;rw[h]at e;cases e
 ·rw[iA q];exact e
theorem yU(s:ak H0 H):ak (shr H0 H a) H:=fun b o e=>by
 by_cases q:b=a
 ·subst q;rw[eS]at e;exact e
 ·rw[iA q]at e;exact s _ _ e
theorem Own.rep(h:Own H0 H a d)(n:H0 a=none):Rep (shr H0 H a) (V.ref a) d:=by
 cases d with
 |lst ds=>obtain⟨xs,q,r⟩:=h;exact .lst (.inl (by rw[eS];exact q)) (r.mono (jU n))
 |dct ks ds=>obtain⟨xs,q,k,r⟩:=h;exact .dct (by rw[eS];exact q) k (r.mono (jU n))
 |_=>exact Tt h
def ai(σ:St)(ρ:Dm.Env)(a:Addr):Prop:=∃(i:Nat) (d:Dm.Dat),ρ[i]?=some (Dm.Cell.ow d)/\σ[i]?=some (some (V.ref a))
noncomputable abbrev Def(_:Dm.Env)(_:Nat):Prop:=True
structure av(H0 H:Hp)(σ:St)(ρ:Dm.Env):Prop where
 same:ak H0 H
 len:σ.length=ρ.length
 sh:∀(i:Nat) (d:Dm.Dat),ρ[i]?=some (Dm.Cell.sh d)->∃v,σ[i]?=some (some v)/\Rep H0 v d
 ow:∀(i:Nat) (d:Dm.Dat),ρ[i]?=some (Dm.Cell.ow d)->∃a,σ[i]?=some (some (V.ref a))/\H0 a=none/\Own H0 H a d
 dis:∀(i j:Nat) (d e:Dm.Dat) (a:Addr),ρ[i]?=some (Dm.Cell.ow d)->ρ[j]?=some (Dm.Cell.ow e)->σ[i]?=some (some (V.ref a))->σ[j]?=some (some (V.ref a))->i=j
structure Stp(O:Addr->Prop)(H0 H H0' H':Hp):Prop where
 s0:ak H0 H0'
 s1:∀a o,H a=some o->¬O a->H' a=some o
 s2:∀a o,H0' a=some o->H a=none\/H0 a=some o\/O a
 s3:∀a o,H a=some o->∃o',H' a=some o'
theorem Stp.refl(O:Addr->Prop)(H0 H:Hp):Stp O H0 H H0 H:=⟨ak.refl _,fun _ _ e _=>e,fun _ _ e=>.inr (.inl e),fun _ o e=>⟨o,e⟩⟩
theorem Stp.gone{O:Addr->Prop}{H0 H H0' H':Hp}(t:Stp O H0 H H0' H')(h:H' a=none):H a=none:=by
 cases q:H a with
 |none=>rfl
 |some o=>obtain⟨o',e⟩:=t.s3 a o q;rw[h]at e;cases e
theorem Stp.trans{O1 O2:Addr->Prop}{H0 H H1 H' H2 H'':Hp}(t:Stp O1 H0 H H1 H')(u:Stp O2 H1 H' H2 H'')(k:∀a,O2 a->O1 a\/H a=none):Stp O1 H0 H H2 H'' where
 s0:=t.s0.trans u.s0
 s1:=fun a o e n=>u.s1 a o (t.s1 a o e n) fun z=>(k a z).elim n fun q=>by rw[q]at e;cases e
 s2:=fun a o e=>by
  rcases u.s2 a o e with q | q | q
  ·exact .inl (t.gone q)
  ·exact t.s2 a o q
  ·rcases k a q with z | z
   ·exact .inr (.inr z)
   ·exact .inl z
 s3:=fun a o e=>by obtain⟨o',e'⟩:=t.s3 a o e;exact u.s3 a o' e'
theorem Stp.wide{O O':Addr->Prop}{H0 H H0' H':Hp}(t:Stp O H0 H H0' H')(k:∀a,O a->O' a):Stp O' H0 H H0' H':=
 ⟨t.s0,fun a o e n=>t.s1 a o e fun z=>n (k a z),fun a o e=>(t.s2 a o e).imp id (Or.imp id (k a)),t.s3⟩
structure aD(H0 H H0' H':Hp):Prop where
 s0:ak H0 H0'
 s1:ak H H'
 s2:∀a o,H0' a=some o->H a=none\/H0 a=some o
 s3:ak H0' H'
theorem aD.refl(s:ak H0 H):aD H0 H H0 H:=⟨ak.refl _,ak.refl _,fun _ _ e=>.inr e,s⟩
theorem aD.stp{H0 H H0' H':Hp}(g:aD H0 H H0' H')(O:Addr->Prop):Stp O H0 H H0' H':=
 ⟨g.s0,fun a o e _=>g.s1 a o e,fun a o e=>(g.s2 a o e).imp id .inl,fun a o e=>⟨o,g.s1 a o e⟩⟩
theorem aD.trans{H0 H H1 H' H2 H'':Hp}(t:aD H0 H H1 H')(u:aD H1 H' H2 H''):aD H0 H H2 H'' where
 s0:=t.s0.trans u.s0
 s1:=t.s1.trans u.s1
 s2:=fun a o e=>by
  rcases u.s2 a o e with q | q
  ·exact .inl (t.s1.free q)
  ·exact t.s2 a o q
 s3:=u.s3
theorem aD.Cs(s:ak H0 H)(n:H p=none):aD H0 H (upd H0 p o) (upd H p o) where
 s0:=fun b u e=>by rw[aq (aM e (s.free n))];exact e
 s1:=fun b u e=>by rw[aq (aM e n)];exact e
 s2:=fun b u e=>by
  by_cases q:b=p
  ·subst q;exact .inl n
  ·rw[aq q]at e;exact .inr e
 s3:=fun b u e=>by
  by_cases q:b=p
  ·subst q;rw[ao]at e ⊢;exact e
  ·rw[aq q]at e ⊢;exact s _ _ e
theorem aD.gb(s:ak H0 H)(n:H p=none):aD H0 H H0 (upd H p o) where
 s0:=ak.refl _
 s1:=fun b u e=>by rw[aq (aM e n)];exact e
 s2:=fun b u e=>.inr e
 s3:=fun b u e=>by rw[aq (aM (s _ _ e) n)];exact s _ _ e
def gf(Hs H0 H:Hp)(σ:St)(ρ:Dm.Env)(v:V):Dm.Val->Prop
 |.val d=>Rep H0 v d
 |.slot i=>σ[i]?=some (some v)/\Def ρ i
 |.new d=>∃a,v=V.ref a/\Hs a=none/\¬ai σ ρ a/\H0 a=none/\Own H0 H a d
structure ESt(σ:St)(ρ:Dm.Env)(H0 H:Hp)(ρ':Dm.Env)(H0' H':Hp):Prop where
 st:av H0' H' σ ρ'
 stp:Stp (ai σ ρ) H0 H H0' H'
 own:∀a,ai σ ρ' a->ai σ ρ a
 dfn:∀i,Def ρ i->Def ρ' i
theorem ESt.refl(st:av H0 H σ ρ):ESt σ ρ H0 H ρ H0 H:=⟨st,Stp.refl _ _ _,fun _ z=>z,fun _ z=>z⟩
theorem ESt.trans{ρ ρ1 ρ2:Dm.Env}{H0 H H1 H' H2 H'':Hp}(t:ESt σ ρ H0 H ρ1 H1 H')(u:ESt σ ρ1 H1 H' ρ2 H2 H''):ESt σ ρ H0 H ρ2 H2 H'':=
 ⟨u.st,t.stp.trans u.stp fun a z=>.inl (t.own a z),fun a z=>t.own a (u.own a z),fun i z=>u.dfn i (t.dfn i z)⟩
theorem av.grow{H0 H H0' H':Hp}(st:av H0 H σ ρ)(g:aD H0 H H0' H'):av H0' H' σ ρ where
 same:=g.s3
 len:=st.len
 sh:=fun i d e=>by obtain⟨v,q,r⟩:=st.sh i d e;exact⟨v,q,r.mono g.s0⟩
 ow:=fun i d e=>by
  obtain⟨a,q,n,w⟩:=st.ow i d e;obtain⟨o,z⟩:=w.some;refine⟨a,q,?_,w.mono g.s0 ((g.s1 a o z).trans z.symm)⟩;cases y:H0' a with
  |none=>rfl
  |some u=>
   rcases g.s2 a u y with k | k
   ·rw[z]at k;cases k
   ·rw[n]at k;cases k
 dis:=st.dis
theorem ESt.grow{H0 H H0' H':Hp}(st:av H0 H σ ρ)(g:aD H0 H H0' H'):ESt σ ρ H0 H ρ H0' H':=
 ⟨st.grow g,g.stp _,fun _ z=>z,fun _ z=>z⟩
theorem gf.mono{Hs H0 H H0' H':Hp}{ρ ρ':Dm.Env}(r:gf Hs H0 H σ ρ v x)(t:ESt σ ρ H0 H ρ' H0' H'):gf Hs H0' H' σ ρ' v x:=by
 cases x with
 |val d=>exact Rep.mono t.stp.s0 r
 |slot i=>exact⟨r.1,t.dfn i r.2⟩
 |new d=>
  obtain⟨a,e,n,no,n0,w⟩:=r;obtain⟨o,z⟩:=w.some;refine⟨a,e,n,fun y=>no (t.own a y),?_,w.mono t.stp.s0 ((t.stp.s1 a o z no).trans z.symm)⟩;cases y:H0' a with
  |none=>rfl
  |some u=>
   rcases t.stp.s2 a u y with k | k | k
   ·rw[z]at k;cases k
   ·rw[n0]at k;cases k
   ·exact absurd k no
theorem gf.early{Hs Hs' H0 H:Hp}(r:gf Hs H0 H σ ρ v x)(k:∀a,Hs a=none->Hs' a=none):gf Hs' H0 H σ ρ v x:=by
 cases x with
 |val d=>exact r
 |slot i=>exact r
 |new d=>obtain⟨a,e,n,z⟩:=r;exact⟨a,e,k a n,z⟩
theorem gf.look{Hs H0 H:Hp}(r:gf Hs H0 H σ ρ v x)(st:av H0 H σ ρ)(e:Dm.pk ρ x=some d):kO H0 H v d:=by
 cases x with
 |val d'=>cases e;exact .inl r
 |new d'=>cases e;obtain⟨a,e,_,_,_,w⟩:=r;exact .inr ⟨a,e,w⟩
 |slot i=>
  obtain⟨q,_⟩:=r;unfold Dm.pk at e;dsimp only at e;split at e
  ·rename_i d' h;cases e;obtain⟨a,z,_,w⟩:=st.ow i d h;rw[q]at z;cases z;exact .inr ⟨a,rfl,w⟩
  ·rename_i d' h;cases e;obtain⟨u,z,w⟩:=st.sh i d h;rw[q]at z;cases z;exact .inl w
  ·cases e
def um(Hs H0 H:Hp)(v:V):Dm.RV->Prop
 |.val d=>Rep H0 v d
 |.new d=>∃a,v=V.ref a/\Hs a=none/\H0 a=none/\Own H0 H a d
theorem um.toV{H H0' H' H0:Hp}{z:Dm.RV}(r:um H H0' H' v z)(st:av H0 H σ ρ):gf H H0' H' σ ρ v z.bD:=by
 cases z with
 |val d=>exact r
 |new d=>obtain⟨a,e,n,n0,w⟩:=r;refine⟨a,e,n,fun⟨i,d',h1,h2⟩=>?_,n0,w⟩;obtain⟨a',q,_,w'⟩:=st.ow i d' h1;rw[h2]at q;cases q;obtain⟨o,z⟩:=w'.some;rw[n]at z;cases z
def tD(f:Dm.FE):TE:=fun σ H Q=>∃H0 ρ x ρ',av H0 H σ ρ/\f ρ=some (x,ρ')/\∀v H0' H',ESt σ ρ H0 H ρ' H0' H'->gf H H0' H' σ ρ' v x->Q v H'
def tDT(f:Dm.FT):TT:=fun σ H Q=>∃H0 ρ b ρ',av H0 H σ ρ/\f ρ=some (b,ρ')/\∀H0' H',ESt σ ρ H0 H ρ' H0' H'->Q b H'
inductive cT(Hs H0 H:Hp)(σ:St)(ρ:Dm.Env):List V->List Dm.Val->Prop
 |nil:cT Hs H0 H σ ρ [] []
 |cons {v:V} {x:Dm.Val} {vs:List V} {xs:List Dm.Val}:gf Hs H0 H σ ρ v x->cT Hs H0 H σ ρ vs xs->cT Hs H0 H σ ρ (v::vs) (x::xs)
def tDA(fs:List Dm.FE):TA:=fun σ H Q=>∃H0 ρ xs ρ',av H0 H σ ρ/\Dm.eAs fs ρ=some (xs,ρ')/\∀vs H0' H',ESt σ ρ H0 H ρ' H0' H'->cT H H0' H' σ ρ' vs xs->Q vs H'
noncomputable abbrev DE(X:Cx)(e:Expr)(f:Dm.FE):Prop:=PE X e (tD f)
noncomputable abbrev DT(X:Cx)(e:Expr)(f:Dm.FT):Prop:=PT X e (tDT f)
noncomputable abbrev DA(X:Cx)(es:List Expr)(fs:List Dm.FE):Prop:=PA X es (tDA fs)
theorem PE.weak{t t':TE}(h:PE X e t)(k:∀σ H Q,t' σ H Q->t σ H Q):PE X e t':=fun uW s σ H Q I q=>h uW s σ H Q I (k σ H Q q)
theorem PT.weak{t t':TT}(h:PT X e t)(k:∀σ H Q,t' σ H Q->t σ H Q):PT X e t':=fun uW s σ H Q I q=>h uW s σ H Q I (k σ H Q q)
theorem PA.weak{es:List Expr}{t t':TA}(h:PA X es t)(k:∀σ H Q,t' σ H Q->t σ H Q):PA X es t':=fun pos uW s σ H Q I q=>h pos uW s σ H Q I (k σ H Q q)
theorem PS.weak{st:Stmt}(h:PS X st t)(k:∀D σ H,t' D σ H->t D σ H):PS X st t':=fun uW s σ H D I q=>h uW s σ H D I (k D σ H q)
theorem PSs.weak{st:List Stmt}(h:PSs X st t)(k:∀D σ H,t' D σ H->t D σ H):PSs X st t':=fun uW s σ H D I q=>h uW s σ H D I (k D σ H q)
theorem dF(s:ak H0 H):ak H0 (shr H0 H a):=fun b o e=>by
 by_cases q:b=a
 ·subst q;rw[eS];exact s _ _ e
 ·rw[iA q];exact e
theorem Own.N1{H0 H0c H:Hp}(h:Own H0 H a d)(b:ak H0 H0c)(s:ak H0c H):Rep (shr H0c H a) (V.ref a) d:=by
 cases d with
 |lst ds=>obtain⟨xs,q,r⟩:=h;exact .lst (.inl (by rw[eS];exact q)) (r.mono (b.trans (dF s)))
 |dct ks ds=>obtain⟨xs,q,k,r⟩:=h;exact .dct (by rw[eS];exact q) k (r.mono (b.trans (dF s)))
 |_=>exact Tt h
theorem gf.rho{Hs H0 H:Hp}{ρ ρ':Dm.Env}(r:gf Hs H0 H σ ρ v x)(o:∀a,ai σ ρ' a->ai σ ρ a)(d:∀i,Def ρ i->Def ρ' i):gf Hs H0 H σ ρ' v x:=by
 cases x with
 |val d=>exact r
 |slot i=>exact⟨r.1,d i r.2⟩
 |new d=>obtain⟨a,e,n,no,z⟩:=r;exact⟨a,e,n,fun y=>no (o a y),z⟩
theorem cT.rho{Hs H0 H:Hp}{ρ ρ':Dm.Env}(o:∀a,ai σ ρ' a->ai σ ρ a)(d:∀i,Def ρ i->Def ρ' i):∀{vs:List V} {xs:List Dm.Val},cT Hs H0 H σ ρ vs xs->cT Hs H0 H σ ρ' vs xs
 |_,_,.nil=>.nil
 |_,_,.cons h r=>.cons (h.rho o d) (cT.rho o d r)
theorem cT.early{Hs Hs' H0 H:Hp}(k:∀a,Hs a=none->Hs' a=none):∀{vs:List V} {xs:List Dm.Val},cT Hs H0 H σ ρ vs xs->cT Hs' H0 H σ ρ vs xs
 |_,_,.nil=>.nil
 |_,_,.cons h r=>.cons (h.early k) (cT.early k r)
theorem aJ{i j:Nat}{c d:Dm.Cell}(h:(ρ.set i c)[j]?=some d):(j=i/\d=c)\/(j≠i/\ρ[j]?=some d):=by
 by_cases e:j=i
 ·subst e;by_cases l:j<ρ.length
  ·rw[SR l]at h;exact .inl ⟨rfl,(Option.some.inj h).symm⟩
  ·rw[Tj (by simpa using UC.mp l)]at h;cases h
 ·rw[eg (Ne.symm e)]at h;exact .inr ⟨e,h⟩
theorem xy{i:Nat}(st:av H0 H σ ρ)(e:ρ[i]?=some (.ow d))(q:σ[i]?=some (some (V.ref a))) :
  av (shr H0 H a) H σ (ρ.set i (.sh d))/\(∀b,ai σ (ρ.set i (.sh d)) b->ai σ ρ b)/\∀j,Def ρ j->Def (ρ.set i (.sh d)) j:=by
 obtain⟨a',q',n,w⟩:=st.ow i d e;rw[q]at q';cases q';have hil:i<ρ.length:=(Su.mp e).1;refine⟨⟨yU st.same,by rw[Td];exact st.len,fun j d' h=>?_,fun j d' h=>?_,fun j k d1 d2 b h1 h2 h3 h4=>?_⟩,fun b ⟨j,d',h1,h2⟩=>?_,fun j h=>?_⟩
 ·rcases aJ h with⟨rfl,z⟩ | ⟨_,h⟩
  ·cases z;exact⟨_,q,w.rep n⟩
  ·obtain⟨v,z,r⟩:=st.sh j d' h;exact⟨v,z,r.mono (jU n)⟩
 ·rcases aJ h with⟨_,z⟩ | ⟨hj,h⟩
  ·cases z
  ·obtain⟨b,z,n',w'⟩:=st.ow j d' h;have nb:b≠a:=fun y=>hj (st.dis j i d' d a h e (y▸z) q);exact⟨b,z,by rw[iA nb];exact n',w'.mono (jU n) rfl⟩
 ·rcases aJ h1 with⟨_,z⟩ | ⟨_,h1⟩
  ·cases z
  ·rcases aJ h2 with⟨_,z⟩ | ⟨_,h2⟩
   ·cases z
   ·exact st.dis j k d1 d2 b h1 h2 h3 h4
 ·rcases aJ h1 with⟨_,z⟩ | ⟨_,h1⟩
  ·cases z
  ·exact⟨j,d',h1,h2⟩
 ·trivial
theorem AQ(st:av H0 H σ ρ)(no:¬ai σ ρ a):av (shr H0 H a) H σ ρ where
 same:=yU st.same
 len:=st.len
 sh:=fun j d h=>by obtain⟨v,z,r⟩:=st.sh j d h;exact⟨v,z,r.mono (dF st.same)⟩
 ow:=fun j d h=>by obtain⟨b,z,n',w'⟩:=st.ow j d h;have nb:b≠a:=fun y=>no ⟨j,d,h,y▸z⟩;exact⟨b,z,by rw[iA nb];exact n',w'.mono (dF st.same) rfl⟩
 dis:=st.dis
theorem take1{Hs H0s H0 H0c H:Hp}{ρs ρ ρ':Dm.Env}(t:ESt σ ρs H0s Hs ρ H0c H)(b:ak H0 H0c)(r:gf Hs H0 H σ ρ v x)(e:Dm.tk ρ x=some (d,ρ')) :
  ∃ni,ESt σ ρs H0s Hs ρ' ni H/\ak H0c ni/\Rep ni v d/\(∀a,ai σ ρ' a->ai σ ρ a)/\∀i,Def ρ i->Def ρ' i:=by
 cases x with
 |val d'=>cases e;exact⟨H0c,t,ak.refl _,Rep.mono b r,fun _ z=>z,fun _ z=>z⟩
 |new d'=>
  cases e;obtain⟨a,e,n,no,n0,w⟩:=r;subst e;have ss:=dF (a:=a) t.st.same;refine⟨shr H0c H a,⟨AQ t.st no,⟨t.stp.s0.trans ss,t.stp.s1,fun c o q=>?_,t.stp.s3⟩,t.own,t.dfn⟩,ss,w.N1 b t.st.same,fun _ z=>z,fun _ z=>z⟩;by_cases y:c=a
  ·subst y;exact .inl n
  ·rw[iA y]at q;exact t.stp.s2 c o q
 |slot i=>
  obtain⟨q,_⟩:=r;unfold Dm.tk at e;dsimp only at e;split at e
  ·rename_i d' h;cases e;obtain⟨a,z,n,w⟩:=t.st.ow i _ h;rw[q]at z;cases z;obtain⟨s1,s2,s3⟩:=xy t.st h q;have ss:=dF (a:=a) t.st.same;refine⟨shr H0c H a,⟨s1,⟨t.stp.s0.trans ss,t.stp.s1,fun c o q'=>?_,t.stp.s3⟩,fun b z=>t.own b (s2 b z),fun j z=>s3 j (t.dfn j z)⟩,ss,w.N1 (ak.refl _) t.st.same,s2,s3⟩;by_cases y:c=a
   ·subst y;exact .inr (.inr (t.own c ⟨i,_,h,q⟩))
   ·rw[iA y]at q';exact t.stp.s2 c o q'
  ·rename_i d' h;cases e;obtain⟨u,z,w⟩:=t.st.sh i _ h;rw[q]at z;cases z;exact⟨H0c,t,ak.refl _,w,fun _ z=>z,fun _ z=>z⟩
  ·cases e
theorem takes{Hs H0s H0 H:Hp}{ρs:Dm.Env}:∀{xs:List Dm.Val} {vs:List V} {ρ ρ':Dm.Env} {ds:List Dm.Dat} {H0c:Hp},ESt σ ρs H0s Hs ρ H0c H->ak H0 H0c->cT Hs H0 H σ ρ vs xs->Dm.tks ρ xs=some (ds,ρ') ->
  ∃ni,ESt σ ρs H0s Hs ρ' ni H/\ak H0c ni/\az ni vs ds
 |[],_,ρ,ρ',ds,H0c,t,b,r,e=>by cases r;cases e;exact⟨H0c,t,ak.refl _,.nil⟩
 |x::xs,_,ρ,ρ',ds,H0c,t,b,r,e=>by
  cases r with
  |cons h r=>
   unfold Dm.tks at e;split at e
   ·cases e
   ·rename_i d ρ1 e1;split at e
    ·cases e
    ·rename_i ds' ρ2 e2;cases e;obtain⟨H1,t1,b1,r1,o1,d1⟩:=take1 t b h e1;obtain⟨H2,t2,b2,r2⟩:=takes t1 (b.trans b1) (r.rho o1 d1) e2;exact⟨H2,t2,b1.trans b2,.cons (r1.mono b2) r2⟩
theorem N2{ρ ρ':Dm.Env}(e:Dm.tk ρ x=some (d,ρ'))(y:Dm.Val):Dm.pk ρ' y=Dm.pk ρ y:=by
 cases x with
 |val d'=>cases e;rfl
 |new d'=>cases e;rfl
 |slot i=>
  unfold Dm.tk at e;dsimp only at e;split at e
  ·rename_i d' h;cases e;cases y with
   |val _=>rfl
   |new _=>rfl
   |slot j=>
    unfold Dm.pk;dsimp only;by_cases z:j=i
    ·subst z;rw[SR (Su.mp h).1,h]
    ·rw[eg (Ne.symm z)]
  ·cases e;rfl
  ·cases e
theorem Ct(e:Dm.pk ρ x=some d):∃ρ',Dm.tk ρ x=some (d,ρ'):=by
 cases x with
 |val d'=>cases e;exact⟨ρ,rfl⟩
 |new d'=>cases e;exact⟨ρ,rfl⟩
 |slot i=>
  unfold Dm.pk at e;dsimp only at e;unfold Dm.tk;dsimp only;split at e
  ·rename_i d' h;cases e;exact⟨_,rfl⟩
  ·rename_i d' h;cases e;exact⟨_,rfl⟩
  ·cases e
theorem nj:∀{xs:List Dm.Val} {ρ:Dm.Env} {ds:List Dm.Dat},Dm.pks ρ xs=some ds->∃ρ',Dm.tks ρ xs=some (ds,ρ')
 |[],ρ,ds,e=>by cases e;exact⟨ρ,rfl⟩
 |x::xs,ρ,ds,e=>by
  unfold Dm.pks at e;split at e
  ·cases e
  ·rename_i d e1;split at e
   ·cases e
   ·rename_i ds' e2;cases e;obtain⟨ρ1,h1⟩:=Ct e1;have key:∀ys:List Dm.Val,Dm.pks ρ1 ys=Dm.pks ρ ys:=fun ys=>by
     induction ys with
     |nil=>rfl
     |cons y ys ih=>unfold Dm.pks;rw[N2 h1 y,ih]
    obtain⟨ρ2,h2⟩:=nj (xs:=xs) (ρ:=ρ1) (ds:=ds') (by rw[key];exact e2);exact⟨ρ2,by unfold Dm.tks;rw[h1];dsimp only;rw[h2]⟩
theorem looks{Hs H0 H:Hp}(st:av H0 H σ ρ):∀{xs:List Dm.Val} {vs:List V} {ds:List Dm.Dat},cT Hs H0 H σ ρ vs xs->Dm.pks ρ xs=some ds->uh H0 H vs ds
 |[],_,ds,r,e=>by cases r;cases e;exact .nil
 |x::xs,_,ds,r,e=>by
  cases r with
  |cons h r=>
   unfold Dm.pks at e;split at e
   ·cases e
   ·rename_i d e1;split at e
    ·cases e
    ·rename_i ds' e2;cases e;exact .cons (h.look st e1) (looks st r e2)
def OpD(r:R2)(g:Dm.Dat->Dm.Dat->Option Dm.RV):Prop:=∀(H0 H:Hp) (x y:V) (dx dy:Dm.Dat) (z:Dm.RV) (Q:VK),ak H0 H->kO H0 H x dx->kO H0 H y dy->g dx dy=some z ->
 (∀v H0' H',aD H0 H H0' H'->um H H0' H' v z->Q v H')->r x y H Q
def UnD(r:V->Hp->VK->Prop)(g:Dm.Dat->Option Dm.RV):Prop:=∀(H0 H:Hp) (x:V) (dx:Dm.Dat) (z:Dm.RV) (Q:VK),ak H0 H->kO H0 H x dx->g dx=some z ->
 (∀v H0' H',aD H0 H H0' H'->um H H0' H' v z->Q v H')->r x H Q
def CallD(r:List V->Hp->VK->Prop)(g:List Dm.Dat->Option Dm.RV):Prop:=∀(H0 H:Hp) (vs:List V) (ds:List Dm.Dat) (z:Dm.RV) (Q:VK),ak H0 H->uh H0 H vs ds->g ds=some z ->
 (∀v H0' H',aD H0 H H0' H'->um H H0' H' v z->Q v H')->r vs H Q
def spD(f:List Dm.Dat->Option Dm.RV):Sp:=fun vs H Q _=>∃H0 ds z,ak H0 H/\az H0 vs ds/\f ds=some z/\∀v H0' H',aD H0 H H0' H'->um H H0' H' v z->Q v H'
end
section
variable{σ:St}{H:Hp}{Q:VK}
section
variable{fs:List Dm.FE}{d:Dm.Dat}{a b:Dm.FE}{t u:Dm.FT}{v:V}{H0:Hp}
theorem N3{i:Nat}(h:tD (Dm.eV i) σ H Q):fT i σ H Q:=by
 obtain⟨H0,ρ,x,ρ',st,e,k⟩:=h;unfold Dm.eV at e;split at e
 ·rename_i d h1;cases e;obtain⟨v,q,r⟩:=st.sh i d h1;exact⟨v,q,k v H0 H (.refl st) r⟩
 ·rename_i d h1;cases e;obtain⟨a,q,_⟩:=st.ow i d h1;exact⟨_,q,k _ H0 H (.refl st) ⟨q,trivial⟩⟩
 ·cases e
theorem jV(c:∀H0:Hp,Rep H0 v d)(h:tD (Dm.eC d) σ H Q):tC v σ H Q:=by obtain⟨H0,ρ,x,ρ',st,e,k⟩:=h;cases e;exact k v H0 H (.refl st) (c H0)
theorem xA{r:R2}{g:Dm.Dat->Dm.Dat->Option Dm.RV}{fa fb:Dm.FE}(o:OpD r g)(h:tD (Dm.e2 g fa fb) σ H Q):tOp r (tD fa) (tD fb) σ H Q:=by
 obtain⟨H0,ρ,x,ρ',st,e,k⟩:=h;unfold Dm.e2 at e;split at e
 ·cases e
 rename_i x1 ρ1 e1;split at e
 ·cases e
 rename_i y1 ρ2 e2;split at e
 ·cases e
 rename_i dx p1;split at e
 ·cases e
 rename_i dy p2;split at e
 ·cases e
 rename_i z gz;cases e;refine⟨H0,ρ,x1,ρ1,st,e1,fun v H1 Hb t1 r1=>⟨H1,ρ1,y1,_,t1.st,e2,fun u H2 Hc t2 r2=>?_⟩⟩;refine o H2 Hc v u dx dy z Q t2.st.same ((r1.mono t2).look t2.st p1) (r2.look t2.st p2) gz fun w H3 Hd g3 r3=>?_;exact k w H3 Hd (t1.trans (t2.trans (.grow t2.st g3))) ((r3.toV t2.st).early fun a n=>(t1.trans t2).stp.gone n)
theorem Q3{r:V->Hp->VK->Prop}{g:Dm.Dat->Option Dm.RV}{fa:Dm.FE}(o:UnD r g)(h:tD (Dm.e1 g fa) σ H Q):tUn r (tD fa) σ H Q:=by
 obtain⟨H0,ρ,x,ρ',st,e,k⟩:=h;unfold Dm.e1 at e;split at e
 ·cases e
 rename_i x1 ρ1 e1;split at e
 ·cases e
 rename_i dx p1;split at e
 ·cases e
 rename_i z gz;cases e;refine⟨H0,ρ,x1,_,st,e1,fun v H1 Hb t1 r1=>?_⟩;refine o H1 Hb v dx z Q t1.st.same (r1.look t1.st p1) gz fun w H3 Hd g3 r3=>?_;exact k w H3 Hd (t1.trans (.grow t1.st g3)) ((r3.toV t1.st).early fun a n=>t1.stp.gone n)
theorem N4{Q:List V->Hp->Prop}(h:tDA [] σ H Q):kI σ H Q:=by obtain⟨H0,ρ,xs,ρ',st,e,k⟩:=h;cases e;exact k [] H0 H (.refl st) .nil
theorem KR{f:Dm.FE}{Q:List V->Hp->Prop}(h:tDA (f::fs) σ H Q):eG (tD f) (tDA fs) σ H Q:=by
 obtain⟨H0,ρ,xs,ρ',st,e,k⟩:=h;unfold Dm.eAs at e;split at e
 ·cases e
 rename_i x1 ρ1 e1;split at e
 ·cases e
 rename_i xs1 ρ2 e2;cases e;refine⟨H0,ρ,x1,ρ1,st,e1,fun v H1 Hb t1 r1=>⟨H1,ρ1,xs1,_,t1.st,e2,fun vs H2 Hc t2 r2=>?_⟩⟩;exact k (v::vs) H2 Hc (t1.trans t2) (.cons (r1.mono t2) (r2.early fun a n=>t1.stp.gone n))
theorem KS{r:List V->Hp->VK->Prop}{g:List Dm.Dat->Option Dm.RV}(o:CallD r g)(h:tD (Dm.eB g fs) σ H Q):tCB r (tDA fs) σ H Q:=by
 obtain⟨H0,ρ,x,ρ',st,e,k⟩:=h;unfold Dm.eB at e;split at e
 ·cases e
 rename_i xs ρ1 e1;split at e
 ·cases e
 rename_i ds p1;split at e
 ·cases e
 rename_i z gz;cases e;refine⟨H0,ρ,xs,_,st,e1,fun vs H1 Hb t1 r1=>?_⟩;refine o H1 Hb vs ds z Q t1.st.same (looks t1.st r1 p1) gz fun w H3 Hd g3 r3=>?_;exact k w H3 Hd (t1.trans (.grow t1.st g3)) ((r3.toV t1.st).early fun a n=>t1.stp.gone n)
theorem jW{n:Nat}(h:n<=Dm.SZ):n<=sizeLine:=S8 h (by decide)
theorem N5(h:tD (Dm.iw fs) σ H Q):Gp (tDA fs) σ H Q:=by
 obtain⟨H0,ρ,x,ρ',st,e,k⟩:=h;unfold Dm.iw at e;split at e
 ·cases e
 rename_i xs ρ1 e1;split at e
 ·cases e
 rename_i ds ρ2 e2;split at e
 ·rename_i hz;cases e;refine⟨H0,ρ,xs,ρ1,st,e1,fun vs H1 Hb t1 r1=>?_⟩;obtain⟨H2,t2,b2,r2⟩:=takes t1 (ak.refl _) r1 e2;refine⟨by rw[r2.length];exact jW hz,fun p hp=>?_⟩;have g:=aD.Cs (o:=HO.tup vs) t2.st.same hp;exact k _ _ _ (t2.trans (.grow t2.st g)) (.tup ao (r2.mono g.s0))
 ·cases e
theorem N6(h:tD (Dm.f7 fs) σ H Q):B7 (tDA fs) σ H Q:=by
 obtain⟨H0,ρ,x,ρ',st,e,k⟩:=h;unfold Dm.f7 at e;split at e
 ·cases e
 rename_i xs ρ1 e1;split at e
 ·cases e
 rename_i ds ρ2 e2;split at e
 ·rename_i hz;cases e;refine⟨H0,ρ,xs,ρ1,st,e1,fun vs H1 Hb t1 r1=>?_⟩;obtain⟨H2,t2,b2,r2⟩:=takes t1 (ak.refl _) r1 e2;refine⟨by rw[r2.length];exact jW hz,fun p hp=>?_⟩;have g:=aD.gb (o:=HO.lst vs) t2.st.same hp;refine k _ _ _ (t2.trans (.grow t2.st g)) ⟨p,rfl,t2.stp.gone hp,fun⟨i,d,h1,h2⟩=>?_,t2.st.same.free hp,vs,ao,r2⟩;obtain⟨a,q,_,w⟩:=t2.st.ow i d h1;rw[h2]at q;cases q;obtain⟨o,z⟩:=w.some;rw[hp]at z;cases z
 ·cases e
theorem Rep.plain{H0 H1:Hp}(r:Rep H0 v d)(n:Dm.dg d=false):Rep H1 v d:=by
 cases r with
 |non=>exact .non
 |bl b=>exact .bl b
 |int i=>exact .int i
 |str s=>exact .str s
 |tup _ _=>cases n
 |lst _ _=>cases n
 |dct _ _ _=>cases n
 |exc _=>cases n
 |fn a=>exact .fn a
theorem Own.box{H0 H:Hp}{a:Addr}(w:Own H0 H a d):Dm.dg d=true:=by
 cases d with
 |lst ds=>rfl
 |dct ks ds=>rfl
 |_=>exact Tt w
theorem KU{f:List Dm.Dat->Option Dm.RV}{E:XK}(h:tD (Dm.eF f fs) σ H Q):jN (spD f) [] E (tDA fs) σ H Q:=by
 obtain⟨H0,ρ,x,ρ',st,e,k⟩:=h;unfold Dm.eF at e;split at e
 ·cases e
 rename_i xs ρ1 e1;split at e
 ·cases e
 rename_i ds p1;split at e
 ·cases e
 rename_i z fz;refine⟨H0,ρ,xs,ρ1,st,e1,fun vs H1 Hb t1 r1=>?_⟩;dsimp only;rw[Tu];obtain⟨ρ2,e2⟩:=nj p1;obtain⟨H2,t2,b2,r2⟩:=takes t1 (ak.refl _) r1 e2;split at e
 ·rw[e2]at e;cases e;exact⟨H2,ds,z,t2.st.same,r2,fz,fun w H3 Hd g3 r3=>k w H3 Hd (t2.trans (.grow t2.st g3)) ((r3.toV t2.st).early fun a n=>t2.stp.gone n)⟩
 ·rename_i nb;cases e;refine⟨H2,ds,z,t2.st.same,r2,fz,fun w H3 Hd g3 r3=>?_⟩;have g:aD H1 Hb H1 Hd:=⟨ak.refl _,g3.s1,fun a o q=>.inr q,t1.st.same.trans g3.s1⟩
  refine k w H1 Hd (t1.trans (.grow t1.st g)) ?_;cases z with
  |val d=>exact Rep.plain r3 (by simpa [Dm.RV.dat] using nb)
  |new d=>obtain⟨a,_,_,_,w⟩:=r3;exact absurd w.box (by simpa [Dm.RV.dat] using nb)
theorem Q4{t:Dm.FT}(h:tD (Dm.eIf t a b) σ H Q):tIf (tDT t) (tD a) (tD b) σ H Q:=by
 obtain⟨H0,ρ,x,ρ',st,e,k⟩:=h;unfold Dm.eIf at e;split at e
 ·cases e
 ·rename_i ρ1 e1;refine⟨H0,ρ,true,ρ1,st,e1,fun H1 Hb t1=>?_⟩;dsimp only;rw[if_pos rfl];exact⟨H1,ρ1,x,ρ',t1.st,e,fun v H2 Hc t2 r2=>k v H2 Hc (t1.trans t2) (r2.early fun a n=>t1.stp.gone n)⟩
 ·rename_i ρ1 e1;refine⟨H0,ρ,false,ρ1,st,e1,fun H1 Hb t1=>?_⟩;dsimp only;rw[if_neg S3];exact⟨H1,ρ1,x,ρ',t1.st,e,fun v H2 Hc t2 r2=>k v H2 Hc (t1.trans t2) (r2.early fun a n=>t1.stp.gone n)⟩
theorem Rep.rZ{c:Bool}(r:Rep H0 v (.bl c)):v=.bl c:=by cases r;rfl
theorem Rep.isInt{c:Int}(r:Rep H0 v (.int c)):v=.int c:=by cases r;rfl
theorem N7(h:tD (Dm.eO a b) σ H Q):IF (tD a) (tD b) σ H Q:=by
 obtain⟨H0,ρ,x,ρ',st,e,k⟩:=h;unfold Dm.eO at e;split at e
 ·rename_i ρ1 e1;refine⟨H0,ρ,_,_,st,e1,fun v H1 Hb t1 r1=>⟨true,Rep.rZ r1,?_⟩⟩
  try dsimp only
  rw[if_pos rfl];exact⟨H1,ρ1,x,ρ',t1.st,e,fun v H2 Hc t2 r2=>k v H2 Hc (t1.trans t2) (r2.early fun a n=>t1.stp.gone n)⟩
 ·rename_i ρ1 e1;cases e;refine⟨H0,ρ,_,_,st,e1,fun v H1 Hb t1 r1=>⟨false,Rep.rZ r1,?_⟩⟩
  try dsimp only
  rw[if_neg S3];exact k _ H1 Hb t1 (Rep.bl false)
 ·cases e
theorem N8{a:Dm.FE}(h:tD (Dm.xu a) σ H Q):IG (tD a) σ H Q:=by
 obtain⟨H0,ρ,x,ρ',st,e,k⟩:=h;unfold Dm.xu at e;split at e
 ·rename_i c ρ1 e1;cases e;exact⟨H0,ρ,_,_,st,e1,fun v H1 Hb t1 r1=>⟨c,Rep.rZ r1,k _ H1 Hb t1 (Rep.bl (!c))⟩⟩
 ·cases e
variable{Qt:Bool->Hp->Prop}
theorem r8{a:Dm.FE}(h:tDT (Dm.tV a) σ H Qt):IL (tD a) σ H Qt:=by
 obtain⟨H0,ρ,x,ρ',st,e,k⟩:=h;unfold Dm.tV at e;split at e
 ·rename_i c ρ1 e1;cases e;exact⟨H0,ρ,_,_,st,e1,fun v H1 Hb t1 r1=>⟨_,Rep.rZ r1,k H1 Hb t1⟩⟩
 ·cases e
theorem KW{t:Dm.FT}(h:tDT (Dm.b8 t) σ H Qt):b8 (tDT t) σ H Qt:=by
 obtain⟨H0,ρ,x,ρ',st,e,k⟩:=h;unfold Dm.b8 at e;split at e
 ·rename_i c ρ1 e1;cases e;exact⟨H0,ρ,_,_,st,e1,fun H1 Hb t1=>k H1 Hb t1⟩
 ·cases e
theorem KY(h:tDT (Dm.mU t u) σ H Qt):mU (tDT t) (tDT u) σ H Qt:=by
 obtain⟨H0,ρ,x,ρ',st,e,k⟩:=h;unfold Dm.mU at e;split at e
 ·rename_i ρ1 e1;refine⟨H0,ρ,_,ρ1,st,e1,fun H1 Hb t1=>?_⟩;dsimp only;rw[if_pos rfl];exact⟨H1,ρ1,x,ρ',t1.st,e,fun H2 Hc t2=>k H2 Hc (t1.trans t2)⟩
 ·rename_i ρ1 e1;cases e;refine⟨H0,ρ,_,_,st,e1,fun H1 Hb t1=>?_⟩;dsimp only;rw[if_neg S3];exact k H1 Hb t1
 ·cases e
theorem N9(h:tDT (Dm.tOr t u) σ H Qt):tOr (tDT t) (tDT u) σ H Qt:=by
 obtain⟨H0,ρ,x,ρ',st,e,k⟩:=h;unfold Dm.tOr at e;split at e
 ·rename_i ρ1 e1;cases e;refine⟨H0,ρ,_,_,st,e1,fun H1 Hb t1=>?_⟩;dsimp only;rw[if_pos rfl];exact k H1 Hb t1
 ·rename_i ρ1 e1;refine⟨H0,ρ,_,ρ1,st,e1,fun H1 Hb t1=>?_⟩;dsimp only;rw[if_neg S3];exact⟨H1,ρ1,x,ρ',t1.st,e,fun H2 Hc t2=>k H2 Hc (t1.trans t2)⟩
 ·cases e
end
end
section
variable{ρ:Dm.Env}{H0 H:Hp}{σ:L2.St}
structure SSt(σ:St)(ρ:Dm.Env)(H0 H:Hp)(σ':St)(ρ':Dm.Env)(H0' H':Hp):Prop where
 st:av H0' H' σ' ρ'
 stp:Stp (ai σ ρ) H0 H H0' H'
 own:∀a,ai σ' ρ' a->ai σ ρ a\/H a=none
 fx:σ'[0]?=σ[0]?
theorem ESt.sst{σ:St}{ρ ρ':Dm.Env}{H0 H H0' H':Hp}(t:ESt σ ρ H0 H ρ' H0' H'):SSt σ ρ H0 H σ ρ' H0' H':=⟨t.st,t.stp,fun a z=>.inl (t.own a z),rfl⟩
theorem SSt.refl{σ:St}(st:av H0 H σ ρ):SSt σ ρ H0 H σ ρ H0 H:=(ESt.refl st).sst
theorem SSt.trans{σ σ1 σ2:St}{ρ ρ1 ρ2:Dm.Env}{H0 H H1 H' H2 H'':Hp}(t:SSt σ ρ H0 H σ1 ρ1 H1 H')(u:SSt σ1 ρ1 H1 H' σ2 ρ2 H2 H''):SSt σ ρ H0 H σ2 ρ2 H2 H'':=
 ⟨u.st,t.stp.trans u.stp t.own,fun a z=>(u.own a z).elim (t.own a) fun n=>.inr (t.stp.gone n),u.fx.trans t.fx⟩
def N_(σ:St)(ρ:Dm.Env)(H H0' H':Hp)(v:V):Dm.RV->Prop
 |.val d=>Rep H0' v d
 |.new d=>∃a,v=V.ref a/\(H a=none\/ai σ ρ a)/\H0' a=none/\Own H0' H' a d
def nk(D:Ends)(σ:St)(ρ:Dm.Env)(H0 H:Hp):Dm.Out->Prop
 |.nx ρ'=>∀σ' H0' H',SSt σ ρ H0 H σ' ρ' H0' H'->D.nx σ' H'
 |.bk ρ'=>∀σ' H0' H',SSt σ ρ H0 H σ' ρ' H0' H'->D.bk σ' H'
 |.ct ρ'=>∀σ' H0' H',SSt σ ρ H0 H σ' ρ' H0' H'->D.ct σ' H'
 |.ret z ρ'=>∀σ' v H0' H',SSt σ ρ H0 H σ' ρ' H0' H'->N_ σ ρ H H0' H' v z->(∀d a,z=.new d->v=.ref a->¬ai σ' ρ' a)->D.rt v H'
def tDS(g:Dm.FS):TS:=fun D σ H=>∃H0 ρ o,av H0 H σ ρ/\g ρ=some o/\nk D σ ρ H0 H o
theorem nk.pre{D:Ends}{σ σ1:St}{ρ ρ1:Dm.Env}{H0 H H1 H':Hp}{o:Dm.Out}(t:SSt σ ρ H0 H σ1 ρ1 H1 H')(k:nk D σ ρ H0 H o):nk D σ1 ρ1 H1 H' o:=by
 cases o with
 |nx ρ'=>exact fun σ' H0' H' u=>k σ' H0' H' (t.trans u)
 |bk ρ'=>exact fun σ' H0' H' u=>k σ' H0' H' (t.trans u)
 |ct ρ'=>exact fun σ' H0' H' u=>k σ' H0' H' (t.trans u)
 |ret z ρ'=>
  refine fun σ' v H0' H'' u r no=>k σ' v H0' H'' (t.trans u) ?_ no;cases z with
  |val d=>exact r
  |new d=>
   obtain⟨a,e,n,n0,w⟩:=r;refine⟨a,e,?_,n0,w⟩;rcases n with n | n
   ·exact .inl (t.stp.gone n)
   ·exact(t.own a n).symm
theorem av.mask(st:av H0 H σ ρ)(i:Nat):av H0 H σ (ρ.set i .un) where
 same:=st.same
 len:=by rw[Td];exact st.len
 sh:=fun j d h=>by
  by_cases q:i=j
  ·subst q;rw[UP]at h;simp only[if_true]at h;split at h<;>cases h
  ·rw[eg q]at h;exact st.sh j d h
 ow:=fun j d h=>by
  by_cases q:i=j
  ·subst q;rw[UP]at h;simp only[if_true]at h;split at h<;>cases h
  ·rw[eg q]at h;exact st.ow j d h
 dis:=fun j j' d d' a h1 h2 h3 h4=>by
  by_cases q:i=j
  ·subst q;rw[UP]at h1;simp only[if_true]at h1;split at h1<;>cases h1
  ·by_cases q':i=j'
   ·subst q';rw[UP]at h2;simp only[if_true]at h2;split at h2<;>cases h2
   ·rw[eg q]at h1;rw[eg q']at h2;exact st.dis j j' d d' a h1 h2 h3 h4
theorem bE{i:Nat}{a:Addr}(h:ai σ (ρ.set i .un) a):∃(j:Nat) (d:Dm.Dat),j≠i/\ρ[j]?=some (Dm.Cell.ow d)/\σ[j]?=some (some (V.ref a)):=by
 obtain⟨j,d,h1,h2⟩:=h;by_cases q:i=j
 ·subst q;rw[UP]at h1;simp only[if_true]at h1;split at h1<;>cases h1
 ·rw[eg q]at h1;exact⟨j,d,fun z=>q z.symm,h1,h2⟩
end
section
variable{D:Ends}{σ:St}{H:Hp}
theorem Q5(h:tDS Dm.sNx D σ H):qB D σ H:=by obtain⟨H0,ρ,o,st,e,k⟩:=h;cases e;exact k σ H0 H (.refl st)
theorem Oa{s u:Dm.FS}(h:tDS (Dm.aC s u) D σ H):fU (tDS s) (tDS u) D σ H:=by
 obtain⟨H0,ρ,o,st,e,k⟩:=h;unfold Dm.aC at e;split at e
 ·rename_i ρ1 e1;exact⟨H0,ρ,.nx ρ1,st,e1,fun σ' H0' H' t=>⟨H0',ρ1,o,t.st,e,k.pre t⟩⟩
 ·rename_i h1;cases o with
  |nx ρ1=>exact absurd e (h1 ρ1)
  |bk ρ1=>exact⟨H0,ρ,_,st,e,k⟩
  |ct ρ1=>exact⟨H0,ρ,_,st,e,k⟩
  |ret z ρ1=>exact⟨H0,ρ,_,st,e,k⟩
theorem KZ{f:Dm.FE}(h:tDS (Dm.sE f) D σ H):jJ (tD f) D σ H:=by
 obtain⟨H0,ρ,o,st,e,k⟩:=h;unfold Dm.sE at e;split at e
 ·cases e
 ·rename_i x ρ1 e1;cases e;exact⟨H0,ρ,x,ρ1,st,e1,fun v H0' H' t r=>k σ H0' H' t.sst⟩
theorem Ob{f:Dm.FE}(h:tDS (Dm.sR f) D σ H):Au (tD f) D σ H:=by
 obtain⟨H0,ρ,o,st,e,k⟩:=h;unfold Dm.sR at e;split at e
 ·cases e
 ·rename_i d ρ1 e1;cases e;refine⟨H0,ρ,_,ρ1,st,e1,fun v H0' H' t r=>?_⟩;obtain⟨a,e,n,no,n0,w⟩:=r;exact k σ v H0' H' t.sst ⟨a,e,.inl n,n0,w⟩ fun d' a' _ e' z=>by rw[e]at e';cases e';exact no z
 ·rename_i d ρ1 e1;cases e;exact⟨H0,ρ,_,ρ1,st,e1,fun v H0' H' t r=>k σ v H0' H' t.sst r fun d' a' z=>by cases z⟩
 ·rename_i i ρ1 e1;split at e
  ·rename_i d h1;cases e;refine⟨H0,ρ,_,ρ1,st,e1,fun v H0' H' t r=>?_⟩;obtain⟨q,_⟩:=r;obtain⟨a,q',n0,w⟩:=t.st.ow i d h1;rw[q]at q';cases q';refine k σ _ H0' H' ⟨t.st.mask i,t.stp,fun b z=>?_,rfl⟩ ⟨a,rfl,.inr (t.own a ⟨i,d,h1,q⟩),n0,w⟩ fun d' a' _ e' z=>?_
   ·obtain⟨j,d2,_,z1,z2⟩:=bE z;exact .inl (t.own b ⟨j,d2,z1,z2⟩)
   ·cases e';obtain⟨j,d2,hj,z1,z2⟩:=bE z;exact hj (t.st.dis j i d2 d a z1 h1 z2 q)
  ·rename_i d h1;cases e;refine⟨H0,ρ,_,ρ1,st,e1,fun v H0' H' t r=>?_⟩;obtain⟨q,_⟩:=r;obtain⟨u,q',w⟩:=t.st.sh i d h1;rw[q]at q';cases q';exact k σ _ H0' H' t.sst w fun d' a' z=>by cases z
  ·cases e
theorem Oc{t:Dm.FT}{a b:Dm.FS}(h:tDS (Dm.sIf t a b) D σ H):Av (tDT t) (tDS a) (tDS b) D σ H:=by
 obtain⟨H0,ρ,o,st,e,k⟩:=h;unfold Dm.sIf at e;split at e
 ·cases e
 ·rename_i ρ1 e1;refine⟨H0,ρ,true,ρ1,st,e1,fun H1 Hb t1=>?_⟩;dsimp only;rw[if_pos rfl];exact⟨H1,ρ1,o,t1.st,e,k.pre t1.sst⟩
 ·rename_i ρ1 e1;refine⟨H0,ρ,false,ρ1,st,e1,fun H1 Hb t1=>?_⟩;dsimp only;rw[if_neg S3];exact⟨H1,ρ1,o,t1.st,e,k.pre t1.sst⟩
end
section
variable{ρ:Dm.Env}{σ:St}{i:Nat}{H0 H:Hp}{d:Dm.Dat}{a:Addr}{b:Addr}{o:HO}{v:V}
theorem gg{i j:Nat}{c d:Option V}(h:(σ.set i c)[j]?=some d):(j=i/\d=c)\/(j≠i/\σ[j]?=some d):=by
 by_cases e:j=i
 ·subst e;by_cases l:j<σ.length
  ·rw[SR l]at h;exact .inl ⟨rfl,(Option.some.inj h).symm⟩
  ·rw[Tj (by simpa using UC.mp l)]at h;cases h
 ·rw[eg (Ne.symm e)]at h;exact .inr ⟨e,h⟩
theorem av.inσ{c d:Dm.Cell}(st:av H0 H σ ρ)(h:(ρ.set i c)[i]?=some d):i<σ.length:=by have:=(Su.mp h).1;rw[Td]at this;rw[st.len];exact this
theorem dh(h:ai (σ.set i (some v)) (ρ.set i (.sh d)) b):ai σ ρ b:=by
 obtain⟨j,d',h1,h2⟩:=h;rcases aJ h1 with⟨_,z⟩ | ⟨hj,h1⟩
 ·cases z
 ·rcases gg h2 with⟨z,_⟩ | ⟨_,h2⟩
  ·exact absurd z hj
  ·exact⟨j,d',h1,h2⟩
theorem av.r9(st:av H0 H σ ρ)(r:Rep H0 v d):av H0 H (σ.set i (some v)) (ρ.set i (.sh d)) where
 same:=st.same
 len:=by rw[Td,Td];exact st.len
 sh:=fun j d' h=>by
  rcases aJ h with⟨rfl,z⟩ | ⟨hj,h'⟩
  ·cases z;exact⟨v,SR (st.inσ h),r⟩
  ·obtain⟨u,q,w⟩:=st.sh j d' h';exact⟨u,by rw[eg (Ne.symm hj)];exact q,w⟩
 ow:=fun j d' h=>by
  rcases aJ h with⟨_,z⟩ | ⟨hj,h'⟩
  ·cases z
  ·obtain⟨u,q,w⟩:=st.ow j d' h';exact⟨u,by rw[eg (Ne.symm hj)];exact q,w⟩
 dis:=fun j k d1 d2 b h1 h2 h3 h4=>by
  rcases aJ h1 with⟨_,z⟩ | ⟨hj,h1⟩
  ·cases z
  rcases aJ h2 with⟨_,z⟩ | ⟨hk,h2⟩
  ·cases z
  rw[eg (Ne.symm hj)]at h3;rw[eg (Ne.symm hk)]at h4;exact st.dis j k d1 d2 b h1 h2 h3 h4
theorem av.Cu(st:av H0 H σ ρ)(no:¬ai σ ρ a)(n0:H0 a=none)(w:Own H0 H a d):av H0 H (σ.set i (some (.ref a))) (ρ.set i (.ow d)) where
 same:=st.same
 len:=by rw[Td,Td];exact st.len
 sh:=fun j d' h=>by
  rcases aJ h with⟨_,z⟩ | ⟨hj,h'⟩
  ·cases z
  ·obtain⟨u,q,w⟩:=st.sh j d' h';exact⟨u,by rw[eg (Ne.symm hj)];exact q,w⟩
 ow:=fun j d' h=>by
  rcases aJ h with⟨rfl,z⟩ | ⟨hj,h'⟩
  ·cases z;exact⟨a,SR (st.inσ h),n0,w⟩
  ·obtain⟨u,q,w⟩:=st.ow j d' h';exact⟨u,by rw[eg (Ne.symm hj)];exact q,w⟩
 dis:=fun j k d1 d2 b h1 h2 h3 h4=>by
  rcases aJ h1 with⟨e1,z1⟩ | ⟨hj,h1'⟩
  ·rcases aJ h2 with⟨e2,z2⟩ | ⟨hk,h2'⟩
   ·rw[e1,e2]
   ·rcases gg h3 with⟨_,z⟩ | ⟨z,_⟩
    ·cases z;rw[eg (Ne.symm hk)]at h4;exact absurd ⟨k,d2,h2',h4⟩ no
    ·exact absurd e1 z
  ·rcases aJ h2 with⟨e2,z2⟩ | ⟨hk,h2'⟩
   ·rcases gg h4 with⟨_,z⟩ | ⟨z,_⟩
    ·cases z;rw[eg (Ne.symm hj)]at h3;exact absurd ⟨j,d1,h1',h3⟩ no
    ·exact absurd e2 z
   ·rw[eg (Ne.symm hj)]at h3;rw[eg (Ne.symm hk)]at h4;exact st.dis j k d1 d2 b h1' h2' h3 h4
theorem r_{a b:Addr}(h:ai (σ.set i (some (.ref a))) (ρ.set i (.ow d)) b):b=a\/ai σ ρ b:=by
 obtain⟨j,d',h1,h2⟩:=h;rcases aJ h1 with⟨e,_⟩ | ⟨hj,h1⟩
 ·rcases gg h2 with⟨_,z⟩ | ⟨z,_⟩
  ·cases z;exact .inl rfl
  ·exact absurd e z
 ·rcases gg h2 with⟨z,_⟩ | ⟨_,h2⟩
  ·exact absurd z hj
  ·exact .inr ⟨j,d',h1,h2⟩
theorem av.write{d d':Dm.Dat}(st:av H0 H σ ρ)(e:ρ[i]?=some (.ow d))(q:σ[i]?=some (some (V.ref a)))(w':Own H0 (upd H a o) a d') :
  av H0 (upd H a o) σ (ρ.set i (.ow d')):=by
 obtain⟨a',q',n,w⟩:=st.ow i d e;rw[q]at q';cases q';refine⟨fun b u z=>?_,by rw[Td];exact st.len,fun j d1 h=>?_,fun j d1 h=>?_,fun j k d1 d2 b h1 h2 h3 h4=>?_⟩
 ·rw[aq (aM z n)];exact st.same _ _ z
 ·rcases aJ h with⟨_,z⟩ | ⟨hj,h'⟩
  ·cases z
  ·exact st.sh j d1 h'
 ·rcases aJ h with⟨rfl,z⟩ | ⟨hj,h'⟩
  ·cases z;exact⟨a,q,n,w'⟩
  ·obtain⟨b,q1,n1,w1⟩:=st.ow j d1 h';have nb:b≠a:=fun y=>hj (st.dis j i d1 d a h' e (y▸q1) q);exact⟨b,q1,n1,w1.mono (ak.refl _) (aq nb)⟩
 ·have f:∀{j:Nat} {d1:Dm.Dat},(ρ.set i (.ow d'))[j]?=some (.ow d1)->∃d2,ρ[j]?=some (.ow d2):=fun {j d1} h=>by
   rcases aJ h with⟨rfl,_⟩ | ⟨_,h'⟩
   ·exact⟨d,e⟩
   ·exact⟨d1,h'⟩
  obtain⟨x1,y1⟩:=f h1;obtain⟨x2,y2⟩:=f h2;exact st.dis j k x1 x2 b y1 y2 h3 h4
theorem cj{d d':Dm.Dat}(e:ρ[i]?=some (.ow d))(h:ai σ (ρ.set i (.ow d')) b):ai σ ρ b:=by
 obtain⟨j,d1,h1,h2⟩:=h;rcases aJ h1 with⟨rfl,_⟩ | ⟨_,h'⟩
 ·exact⟨j,d,e,h2⟩
 ·exact⟨j,d1,h',h2⟩
theorem Stp.write(w:ai σ ρ a):Stp (ai σ ρ) H0 H H0 (upd H a o):=
 ⟨ak.refl _,fun b u e n=>by rw [aq (show b≠a from fun z=>n (by rw [z];exact w))];exact e,fun b u e=>.inr (.inl e),fun b u e=>by
  by_cases z:b=a
  ·subst z;exact⟨o,ao⟩
  ·exact⟨u,by rw[aq z];exact e⟩⟩
end
section
variable{D:Ends}{σ:St}{H:Hp}
section
variable{ρ:Dm.Env}{body:Dm.FS}{f:Dm.FE}{a:Addr}{is:List Nat}{K:gc}{i:Nat}{ds:List Dm.Dat}{d:Dm.Dat}{bd:Dm.FB}{xs:List V}{vs:List V}{n:Nat}{H0:Hp}{k:Nat}{fi:Dm.FI}{t:Dm.FT}{g:TG}{o:HO}{Q:VK}{E:XK}
theorem IS(h:tDS (Dm.sA i f) D σ H):jK (tD f) (cH i) D σ H:=by
 obtain⟨H0,ρ,o,st,e,k⟩:=h;unfold Dm.sA at e;split at e
 ·cases e
 rename_i hi0;split at e
 ·cases e
 ·rename_i d ρ1 e1;cases e;refine⟨H0,ρ,_,ρ1,st,e1,fun v H0' H' t r=>?_⟩;obtain⟨a,e,n,no,n0,w⟩:=r;subst e;refine k _ H0' H' ⟨t.st.Cu no n0 w,t.stp,fun b z=>?_,eg hi0⟩;rcases r_ z with rfl | z
  ·exact .inr n
  ·exact .inl (t.own b z)
 ·rename_i x ρ1 _ e1;split at e
  ·cases e
  ·rename_i d ρ2 e2;cases e;refine⟨H0,ρ,_,ρ1,st,e1,fun v H0' H' t r=>?_⟩;obtain⟨H1,t1,b1,r1,_,_⟩:=take1 t (ak.refl _) r e2;exact k _ H1 H' ⟨t1.st.r9 r1,t1.stp,fun b z=>.inl (t1.own b (dh z)),eg hi0⟩
theorem yV{j:Nat}(h:Def ρ j):Def (ρ.set i (.sh d)) j:=trivial
noncomputable def gh:List Nat->TGs
 |[]=>NN
 |i::is=>II (cH i) (gh is)
theorem yW{H0 H:Hp}{Q:St->Hp->Prop}:∀{is:List Nat} {xs:List V} {ds:List Dm.Dat} {σ:St} {ρ ρ':Dm.Env},av H0 H σ ρ->az H0 xs ds->Dm.sets is ds ρ=some ρ' ->
  (∀σ',av H0 H σ' ρ'->(∀a,ai σ' ρ' a->ai σ ρ a)->(∀j,j∉is->σ'[j]?=σ[j]?)->(∀j,Def ρ j->Def ρ' j)->σ'[0]?=σ[0]?->Q σ' H)->gh is xs σ H Q
 |[],_,[],σ,ρ,ρ',st,r,e,k=>by cases r;cases e;exact⟨rfl,k σ st (fun _ z=>z) (fun _ _=>rfl) (fun _ z=>z) rfl⟩
 |i::is,_,d::ds,σ,ρ,ρ',st,r,e,k=>by
  cases r with
  |cons h r=>
   unfold Dm.sets at e;split at e
   ·cases e
   rename_i hi0;refine⟨_,_,rfl,?_⟩;refine yW (st.r9 h) r e fun σ' st' o' n' d' f'=>k σ' st' (fun a z=>dh (o' a z)) (fun j hj=>?_) (fun j z=>d' j (yV z)) (f'.trans (eg hi0));rw[n' j fun z=>hj (Sy _ z)];exact eg fun z=>hj (by rw[z];exact Sw)
 |[],_,_::_,_,_,_,_,_,e,_=>by cases e
 |_::_,_,[],_,_,_,_,_,e,_=>by cases e
theorem uo:∀{is:List Nat} {ds:List Dm.Dat} {ρ ρ':Dm.Env},Dm.sets is ds ρ=some ρ'->ds.length=is.length
 |[],[],_,_,_=>rfl
 |i::is,_::ds,_,_,e=>by
  unfold Dm.sets at e;split at e
  ·cases e
  ·simp[uo (is:=is) (ds:=ds) e]
 |[],_::_,_,_,e=>by cases e
 |_::_,[],_,_,e=>by cases e
def BD(is:List Nat)(g:TG)(bd:Dm.FB):Prop:=∀(H0 H:Hp) (σ:St) (ρ ρ':Dm.Env) (x:V) (d:Dm.Dat) (Q:St->Hp->Prop),av H0 H σ ρ->Rep H0 x d->bd d ρ=some ρ' ->
 (∀σ',av H0 H σ' ρ'->(∀a,ai σ' ρ' a->ai σ ρ a)->(∀j,j∉is->σ'[j]?=σ[j]?)->(∀j,Def ρ j->Def ρ' j)->σ'[0]?=σ[0]?->Q σ' H)->g x σ H Q
theorem yX(i:Nat):BD [i] (cH i) (Dm.bN i):=by
 intro H0 H σ ρ ρ' x d Q st r e k;unfold Dm.bN at e;split at e
 ·cases e
 rename_i hi0;cases e;refine k _ (st.r9 r) (fun a z=>dh z) (fun j hj=>?_) (fun j h=>yV h) (eg hi0);exact eg (fun z=>hj (by rw[z];exact SY.mpr rfl))
theorem Cv(is:List Nat)(hn:is.length=n):BD is (NO K n (gh is)) (Dm.bT is):=by
 intro H0 H σ ρ ρ' x d Q st r e k;unfold Dm.bT at e;split at e
 ·cases r with
  |tup q rs=>exact⟨_,_,rfl,SqT.of (st.same _ _ q),by rw[rs.length,uo e,hn],yW st rs e k⟩
 ·cases e
theorem Od(h:tDS (Dm.rX i f) D σ H):jJ (tBM K "list" mF (fT i) (tDA [f])) D σ H:=by
 obtain⟨H0,ρ,o,st,e,k⟩:=h;unfold Dm.rX at e;split at e
 ·rename_i ds0 h0;obtain⟨a0,q0,n0,w0⟩:=st.ow i _ h0;refine⟨_,q0,?_⟩;split at e
  ·cases e
  rename_i x ρ1 e1;split at e
  ·cases e
  rename_i d ρ2 e2;split at e
  ·rename_i ds h2;split at e
   ·rename_i hz;cases e;obtain⟨xs0,y0,_⟩:=w0;refine⟨.inl ⟨rfl,xs0,.inl (.inl y0)⟩,?_⟩;refine⟨H0,ρ,[x],ρ1,st,by unfold Dm.eAs;rw[e1];rfl,fun vs H0' H' t r=>?_⟩;cases r with
    |cons r rr=>
     cases rr;obtain⟨H1,t1,b1,r1,_,_⟩:=take1 t (ak.refl _) r e2;obtain⟨a,q,n,w⟩:=t1.st.ow i _ h2;rw[q0]at q;cases q;obtain⟨xs,y,rs⟩:=w;refine⟨a0,xs,_,rfl,rfl,y,by rw[rs.length];exact SX hz (by decide),?_⟩;have ow:ai σ ρ2 a0:=⟨i,_,h2,q0⟩
     refine k σ H1 _ ⟨t1.st.write h2 q0 ⟨_,ao,rs.append (.cons r1 .nil)⟩,t1.stp.trans (Stp.write ow) fun b z=>.inl (t1.own b z),fun b z=>.inl (t1.own b (cj h2 z)),rfl⟩
   ·cases e
  ·cases e
 ·cases e
theorem xB(n:Nat)(i:Int):Dm.ixN n i=L2.ixN n i:=rfl
theorem Oe{j f:Dm.FE}(h:tDS (Dm.xw i j f) D σ H):jK (tD f) (ir (fT i) (tD j) t9) D σ H:=by
 obtain⟨H0,ρ,o,st,e,k⟩:=h;unfold Dm.xw at e;split at e
 ·cases e
 rename_i x ρ1 e1;split at e
 ·cases e
 rename_i d ρ2 e2;split at e
 case h_2=>cases e
 rename_i d0 h2;split at e
 ·rename_i m ρ3 e3;split at e
  ·rename_i ds h3;split at e
   ·cases e
   ·rename_i p e4;cases e;refine⟨H0,ρ,_,ρ1,st,e1,fun v H0' H' t r=>?_⟩;obtain⟨H1,t1,b1,r1,_,_⟩:=take1 t (ak.refl _) r e2;obtain⟨a0,q0,_,_⟩:=t1.st.ow i _ h2;refine⟨_,q0,H1,ρ2,_,ρ3,t1.st,e3,fun u H2 Hc t2 r2=>?_⟩;obtain⟨a,q,n,w⟩:=t2.st.ow i _ h3;rw[q0]at q;cases q;obtain⟨xs,y,rs⟩:=w;refine⟨a0,xs,m,p,rfl,Rep.isInt r2,y,by rw[rs.length];exact e4,?_⟩;have ow:ai σ ρ3 a0:=⟨i,_,h3,q0⟩
    have tt:=t1.trans t2;refine k σ H2 _ ⟨t2.st.write h3 q0 ⟨_,ao,rs.set (r1.mono t2.stp.s0) p⟩,tt.stp.trans (Stp.write ow) fun b z=>.inl (tt.own b z),fun b z=>.inl (tt.own b (cj h3 z)),rfl⟩
  ·cases e
 ·cases e
theorem GG(h:tDS (Dm.whD t body n) D σ H):BV (tDT t) (tDS body) D σ H:=by
 refine⟨fun m σ H=>tDS (Dm.whD t body m) D σ H,⟨n,h⟩,?_⟩;rintro m σ H ⟨H0,ρ,o,st,e,k⟩;cases m with
 |zero=>unfold Dm.whD at e;cases e
 |succ m=>
  unfold Dm.whD at e;split at e
  ·cases e
  ·rename_i ρ1 e1;cases e;refine⟨H0,ρ,false,ρ1,st,e1,fun H1 Hb t1=>?_⟩;dsimp only;rw[if_neg S3];exact k σ H1 Hb t1.sst
  ·rename_i ρ1 e1;refine⟨H0,ρ,true,ρ1,st,e1,fun H1 Hb t1=>?_⟩;dsimp only;rw[if_pos rfl];refine⟨fun σ' H'=>tDS (Dm.whD t body m) D σ' H',fun σ' H' q=>⟨m,UX m,q⟩,?_⟩;have k1:=k.pre t1.sst;split at e
   ·rename_i ρ2 e2;exact⟨H1,ρ1,_,t1.st,e2,fun σ' H0' H' t2=>⟨H0',ρ2,o,t2.st,e,k1.pre t2⟩⟩
   ·rename_i ρ2 e2;exact⟨H1,ρ1,_,t1.st,e2,fun σ' H0' H' t2=>⟨H0',ρ2,o,t2.st,e,k1.pre t2⟩⟩
   ·rename_i ρ2 e2;cases e;exact⟨H1,ρ1,_,t1.st,e2,k1⟩
   ·rename_i v ρ2 e2;cases e;exact⟨H1,ρ1,_,t1.st,e2,k1⟩
   ·cases e
def JW(J:It)(H00:Hp)(ys:List Dm.Dat):Prop:=∀H0 H,ak H00 H0->ak H0 H->(∀i,ys.length<=i->J.stop i H) /\
 ∀(i:Nat) (d:Dm.Dat),ys[i]?=some d->J.go i H/\∀x H',J.yld i H x H'->∃H0',aD H0 H H0' H'/\Rep H0' x d
def tDI(fi:Dm.FI):TI:=fun σ H R=>∃H0 ρ ys ρ',av H0 H σ ρ/\fi ρ=some (ys,ρ')/\∀J H0' H',ESt σ ρ H0 H ρ' H0' H'->JW J H0' ys->R J H'
theorem Of(hb:BD is g bd)(h:tDS (Dm.gX fi bd body) D σ H):BZ (tDI fi) g (tDS body) D σ H:=by
 obtain⟨H0,ρ,o,st,e,k⟩:=h;unfold Dm.gX at e;split at e
 ·cases e
 rename_i ys ρ1 e1;refine⟨H0,ρ,ys,ρ1,st,e1,fun J H00 Hb t1 jw=>?_⟩;refine ⟨fun i m σ H=>∃ H0 ρ o,av H0 H σ ρ∧ak H00 H0∧m=ys.length-i∧i≤ys.length∧Dm.kM bd body (ys.drop i) ρ=some o∧nk D σ ρ H0 H o,
  ⟨ys.length,H00,ρ1,o,t1.st,ak.refl _,by simp,S6 _,by simpa using e,k.pre t1.sst⟩,?_⟩
 rintro i m σ H ⟨H0,ρ,o,st,s00,rfl,hi,e,k⟩;obtain⟨js,jg⟩:=jw H0 H s00 st.same;by_cases HY:i<ys.length
 ·have hd:ys[i]?=some ys[i]:=by simp[HY]
  obtain⟨g1,g2⟩:=jg i ys[i] hd;rw[TX HY]at e;unfold Dm.kM at e;refine .inr ⟨g1,fun σ' H'=>∃H0 ρ o,av H0 H' σ' ρ/\ak H00 H0/\Dm.kM bd body (ys.drop (i+1)) ρ=some o/\nk D σ' ρ H0 H' o,?_,fun x H' y=>?_⟩
  ·rintro σ' H' ⟨H0',ρ',o',h1,h2,h3,h4⟩;exact⟨ys.length-(i+1),by omega,H0',ρ',o',h1,h2,rfl,HY,h3,h4⟩
  ·obtain⟨H0',gr,rx⟩:=g2 x H' y;split at e
   ·cases e
   ·rename_i ρ2 e2;have t2:=ESt.grow st gr;refine hb H0' H' σ ρ ρ2 x ys[i] _ t2.st rx e2 fun σ2 st2 o2 _ _ f2=>?_;have t3:SSt σ ρ H0 H σ2 ρ2 H0' H':=⟨st2,t2.stp,fun a z=>.inl (o2 a z),f2⟩
    have k3:=k.pre t3;have s3:ak H00 H0':=s00.trans gr.s0;split at e
    ·rename_i ρ3 e3;exact⟨H0',ρ2,_,st2,e3,fun σ4 H4 Hd t4=>⟨H4,ρ3,o,t4.st,s3.trans t4.stp.s0,e,k3.pre t4⟩⟩
    ·rename_i ρ3 e3;exact⟨H0',ρ2,_,st2,e3,fun σ4 H4 Hd t4=>⟨H4,ρ3,o,t4.st,s3.trans t4.stp.s0,e,k3.pre t4⟩⟩
    ·rename_i ρ3 e3;cases e;exact⟨H0',ρ2,_,st2,e3,k3⟩
    ·rename_i v ρ3 e3;cases e;exact⟨H0',ρ2,_,st2,e3,k3⟩
    ·cases e
 ·have e':i=ys.length:=by omega
  subst e';rw[Up]at e;cases e;exact .inl ⟨js _ (SA _),k σ H0 H (.refl st)⟩
theorem GH(hq:Rd H0 a (.lst xs))(rs:az H0 xs ds):JW (Itl K a) H0 ds:=by intro H0' H s0 s1;have q:SqL K H a xs:=.inl (ak.rd s1 (ak.rd s0 hq));refine⟨fun i hi=>⟨xs,q,by rw[rs.length];exact hi⟩,fun i d e=>?_⟩;obtain⟨v,hv,rv⟩:=rs.get e;refine⟨⟨xs,v,q,hv⟩,fun x H' y=>?_⟩;obtain⟨e1,y⟩:=y;subst e1;have z:=y xs q;rw[hv]at z;cases z;exact⟨H0',aD.refl s1,rv.mono s0⟩
theorem K5(hq:H0 a=some (.tup xs))(rs:az H0 xs ds):JW (Itt K a) H0 ds:=by intro H0' H s0 s1;have q:SqT K H a xs:=.inl (.inl (s1 _ _ (s0 _ _ hq)));refine⟨fun i hi=>⟨xs,q,by rw[rs.length];exact hi⟩,fun i d e=>?_⟩;obtain⟨v,hv,rv⟩:=rs.get e;refine⟨⟨xs,v,q,hv⟩,fun x H' y=>?_⟩;obtain⟨e1,y⟩:=y;subst e1;have z:=y xs q;rw[hv]at z;cases z;exact⟨H0',aD.refl s1,rv.mono s0⟩
theorem uq{lo:Int}:JW (Itr lo n) H0 (Dm.ups lo n):=by
 intro H0' H s0 s1;have el:(Dm.ups lo n).length=n:=by simp[Dm.ups]
 refine⟨fun i hi=>by rw[el]at hi;exact hi,fun i d e=>?_⟩;have hi:i<n:=by have:=(Su.mp e).1;rw[el]at this;exact this
 have hd:d=.int (lo+i):=by unfold Dm.ups at e;rw[SS,Ua hi]at e;exact(Option.some.inj e).symm
 refine⟨hi,fun x H' y=>?_⟩;obtain⟨rfl,rfl⟩:=y;subst hd;exact⟨H0',aD.refl s1,.int _⟩
variable{R:It->Hp->Prop}
theorem Q6(h:tDI (Dm.iL f) σ H R):mW K (tD f) σ H R:=by
 obtain⟨H0,ρ,ys,ρ',st,e,k⟩:=h;unfold Dm.iL at e;split at e
 ·cases e
 rename_i x ρ1 e1;split at e
 ·rename_i ds ρ2 e2;cases e;refine⟨H0,ρ,_,ρ1,st,e1,fun v H0' H' t r=>?_⟩;obtain⟨H1,t1,b1,r1,_,_⟩:=take1 t (ak.refl _) r e2;cases r1 with
  |lst q rs=>exact⟨_,rfl,⟨_,.inl (ak.rd t1.st.same q)⟩,k _ H1 H' t1 (GH q rs)⟩
 ·cases e
theorem Q7(h:tDI (Dm.iT f) σ H R):BX K (tD f) σ H R:=by
 obtain⟨H0,ρ,ys,ρ',st,e,k⟩:=h;unfold Dm.iT at e;split at e
 ·cases e
 rename_i x ρ1 e1;split at e
 ·rename_i ds ρ2 e2;cases e;refine⟨H0,ρ,_,ρ1,st,e1,fun v H0' H' t r=>?_⟩;obtain⟨H1,t1,b1,r1,_,_⟩:=take1 t (ak.refl _) r e2;cases r1 with
  |tup q rs=>exact⟨_,rfl,⟨_,.inl (.inl (t1.st.same _ _ q))⟩,k _ H1 H' t1 (K5 q rs)⟩
 ·cases e
theorem Og(h:tDI (Dm.iR1 f) σ H R):IJ (tDA [f]) σ H R:=by
 obtain⟨H0,ρ,ys,ρ',st,e,k⟩:=h;unfold Dm.iR1 at e;split at e
 ·rename_i j ρ1 e1;split at e
  ·rename_i hb;cases e;refine⟨H0,ρ,[.val (.int j)],_,st,by unfold Dm.eAs;rw[e1];rfl,fun vs H0' H' t r=>?_⟩;cases r with
   |cons r rr=>cases rr;cases Rep.isInt r;have h1:=hb.1;have h2:=hb.2;unfold Dm.BIG at h1 h2;exact⟨j,rfl,by omega,by omega,k _ H0' H' t uq⟩
  ·cases e
 ·cases e
theorem Oh{f g:Dm.FE}(h:tDI (Dm.iR2 f g) σ H R):IK (tDA [f,g]) σ H R:=by
 obtain⟨H0,ρ,ys,ρ',st,e,k⟩:=h;unfold Dm.iR2 at e;split at e
 ·rename_i i ρ1 e1;split at e
  ·rename_i j ρ2 e2;split at e
   ·rename_i hb;cases e;refine⟨H0,ρ,[.val (.int i),.val (.int j)],_,st,by unfold Dm.eAs;rw[e1];dsimp only;unfold Dm.eAs;rw[e2];rfl,fun vs H0' H' t r=>?_⟩;cases r with
    |cons r rr=>
     cases rr with
     |cons r' rr=>cases rr;cases Rep.isInt r;cases Rep.isInt r';obtain⟨h1,h2,h3,h4⟩:=hb;unfold Dm.BIG at h1 h2 h3 h4;exact⟨i,j,rfl,⟨by omega,by omega,by omega,by omega⟩,k _ H0' H' t uq⟩
   ·cases e
  ·cases e
 ·cases e
def tLC(wi:TI)(own:Nat)(g:TG)(tt:TT)(te:TE):TE:=fun σ H Q=>wi σ H fun J H1=>∀D,H1 D=none->∃W:Nat->Nat->St->Hp->Prop,
 (∃m,W 0 m (σ++Sv own none) (upd H1 D (.lst [])))/\∀i m σ' H',W i m σ' H' ->
  (J.stop i H'∧Q (.ref D) H')∨(J.go i H'∧∀ x H2,J.yld i H' x H2→g x σ' H2 fun σ2 H3=>tt σ2 H3 fun b H4=>if b=true
   then te σ2 H4 fun y H5=>∃En,H5 D=some (.lst En)/\En.length<sizeLine/\∃m',m'<m/\W (i+1) m' σ2 (upd H5 D (.lst (En++[y])))
   else ∃m',m'<m/\W (i+1) m' σ2 H4)
theorem av.aside{H0 H:Hp}{σ:St}(st:av H0 H σ ρ)(n0:H0 a=none)(no:¬ai σ ρ a):av H0 (upd H a o) σ ρ where
 same:=fun b u z=>by rw[aq (aM z n0)];exact st.same _ _ z
 len:=st.len
 sh:=st.sh
 ow:=fun j d h=>by obtain⟨b,q,n,w⟩:=st.ow j d h;have nb:b≠a:=fun y=>no ⟨j,d,h,y▸q⟩;exact⟨b,q,n,w.mono (ak.refl _) (aq nb)⟩
 dis:=st.dis
theorem av.bh{H0 H:Hp}{σ:St}(st:av H0 H σ ρ)(h:H a=none):¬ai σ ρ a:=fun⟨i,d,h1,h2⟩=>by obtain⟨b,q,n,w⟩:=st.ow i d h1;rw[h2]at q;cases q;obtain⟨o,z⟩:=w.some;rw[h]at z;cases z
theorem jX{α:Type}{l:List α}{r:List α}{x:α}(h:(l++r)[i]?=some x)(n:x∉r):i<l.length/\l[i]?=some x:=by
 by_cases hi:i<l.length
 ·rw[SM hi]at h;exact⟨hi,h⟩
 ·rw[Tc (UC.mp hi)]at h;exact absurd (UA h) n
theorem Cw:Dm.Cell.sh d∉Sv k Dm.Cell.un:=fun h=>by have:=List.eq_of_mem_replicate h;cases this
theorem jY:Dm.Cell.ow d∉Sv k Dm.Cell.un:=fun h=>by have:=List.eq_of_mem_replicate h;cases this
theorem av.ext{H0 H:Hp}{σ:St}(st:av H0 H σ ρ)(k:Nat):av H0 H (σ++Sv k none) (ρ++Sv k .un) where
 same:=st.same
 len:=by simp[st.len]
 sh:=fun i d h=>by obtain⟨hi,h⟩:=jX h Cw;obtain⟨v,q,r⟩:=st.sh i d h;exact⟨v,by rw[SM (by rw[st.len];exact hi)];exact q,r⟩
 ow:=fun i d h=>by obtain⟨hi,h⟩:=jX h jY;obtain⟨v,q,r⟩:=st.ow i d h;exact⟨v,by rw[SM (by rw[st.len];exact hi)];exact q,r⟩
 dis:=fun i j d e a h1 h2 h3 h4=>by obtain⟨hi,h1⟩:=jX h1 jY;obtain⟨hj,h2⟩:=jX h2 jY;rw[SM (by rw[st.len];exact hi)]at h3;rw[SM (by rw[st.len];exact hj)]at h4;exact st.dis i j d e a h1 h2 h3 h4
theorem kP{H0 H:Hp}{σ:St}(st:av H0 H σ ρ)(h:ai (σ++Sv k none) (ρ++Sv k .un) a):ai σ ρ a:=by obtain⟨i,d,h1,h2⟩:=h;obtain⟨hi,h1⟩:=jX h1 jY;rw[SM (by rw[st.len];exact hi)]at h2;exact⟨i,d,h1,h2⟩
theorem Stp.aside{O:Addr->Prop}{H0 H H0' H':Hp}{D:Addr}(t:Stp O H0 H H0' H')(hD:H D=none):Stp O H0 H H0' (upd H' D o):=
 ⟨t.s0,fun a u e n=>by rw[aq (aM e hD)];exact t.s1 a u e n,t.s2,fun a u e=>by rw[aq (aM e hD)];exact t.s3 a u e⟩
theorem ESt.bR{σ:St}{ρ ρ':Dm.Env}{H0 H H0' H':Hp}(t:ESt σ ρ H0 H ρ' H0' H'){D:Addr}(h:H D=some o)(n0:H0 D=none)(no:¬ai σ ρ D):H' D=some o/\H0' D=none/\¬ai σ ρ' D:=by
 refine⟨t.stp.s1 D o h no,?_,fun z=>no (t.own D z)⟩;cases q:H0' D with
 |none=>rfl
 |some u=>
  rcases t.stp.s2 D u q with z | z | z
  ·rw[h]at z;cases z
  ·rw[n0]at z;cases z
  ·exact absurd z no
def JWa(J:It)(H00:Hp)(pa:Option (Addr×HO))(ys:List Dm.Dat):Prop:=∀H0 H,ak H00 H0->ak H0 H->(∀q,pa=some q->H q.1=some q.2)->(∀i,ys.length<=i->J.stop i H) /\
 ∀(i:Nat) (d:Dm.Dat),ys[i]?=some d->J.go i H/\∀x H',J.yld i H x H'->∃H0',aD H0 H H0' H'/\Rep H0' x d
theorem ur{σ:St}{own:Nat}{t:Dm.FT}{el:Dm.FE}{Q:VK}{H00 Hb:Hp}{ρ1 ρ2:Dm.Env}{ds ys:List Dm.Dat}{J:It}{pa:Option (Addr×HO)}(hb:BD is g bd)(hl:∀i∈is,σ.length<=i)
  (st1:av H00 Hb σ ρ1) (hp:∀q,pa=some q->Hb q.1=some q.2/\H00 q.1=none/\¬ai σ ρ1 q.1) (jw:JWa J H00 pa ds) (hsz:ds.length<=Dm.SZ) (e2:Dm.d7 bd t el ds (ρ1++Sv own .un) []=some (ys,ρ2))
  (k:∀v H0' H',ESt σ ρ1 H00 Hb (ρ2.take ρ1.length) H0' H'->gf Hb H0' H' σ (ρ2.take ρ1.length) v (.new (.lst ys))->(∀q,pa=some q->H' q.1=some q.2/\H0' q.1=none)->Q v H') (D:Addr) (hD:Hb D=none) :
  ∃W:Nat->Nat->St->Hp->Prop,(∃m,W 0 m (σ++Sv own none) (upd Hb D (.lst [])))/\∀i m σ' H',W i m σ' H' ->
  (J.stop i H'∧Q (.ref D) H')∨(J.go i H'∧∀ x H2,J.yld i H' x H2→g x σ' H2 fun σ2 H3=>tDT t σ2 H3 fun b H4=>if b=true
   then tD el σ2 H4 fun y H5=>∃En,H5 D=some (.lst En)/\En.length<sizeLine/\∃m',m'<m/\W (i+1) m' σ2 (upd H5 D (.lst (En++[y])))
   else ∃m',m'<m/\W (i+1) m' σ2 H4):=by
 have hpD:∀q,pa=some q->q.1≠D:=fun q e z=>by have:=(hp q e).1;rw[z,hD]at this;cases this
 have noD:¬ai σ ρ1 D:=st1.bh hD;refine ⟨fun i m σ' H'=>∃ (H0c:Hp) (ρc:Dm.Env) (AR:List Dm.Dat) (xC:List V),av H0c H' σ' ρc∧ak H00 H0c∧m=ds.length-i∧i≤ds.length∧Dm.d7 bd t el (ds.drop i) ρc AR=some (ys,ρ2) ∧
  H' D=some (.lst xC)/\az H0c xC AR/\H0c D=none/\AR.length<=i/\Stp (ai σ ρ1) H00 Hb H0c H'/\(∀j,j<σ.length->σ'[j]?=σ[j]?)/\(∀a,ai σ' ρc a->ai σ ρ1 a)/\(∀j,Def ρ1 j->Def ρc j)/\(∀q,pa=some q->H' q.1=some q.2/\H0c q.1=none/\¬ai σ' ρc q.1),
  ⟨ds.length,H00,ρ1++Sv own .un,[],[],(st1.aside (st1.same.free hD) noD).ext own,ak.refl _,by simp,S6 _,by simpa using e2,ao,.nil,st1.same.free hD,S6 _,(Stp.refl _ _ _).aside hD,
   fun j hj=>SM hj,fun a z=>kP st1 z,fun j z=>trivial,fun q e=>⟨by rw[aq (hpD q e)];exact(hp q e).1,(hp q e).2.1,fun z=>(hp q e).2.2 (kP st1 z)⟩⟩,?_⟩
 rintro i m σ' H' ⟨H0c,ρc,AR,xC,sc,s00,rfl,hi,ec,hDl,ra,n0,hal,sp,hσ,ho,hdf,hpc⟩;have nOc:¬ai σ' ρc D:=fun z=>noD (ho D z);obtain⟨js,jg⟩:=jw H0c H' s00 sc.same fun q e=>(hpc q e).1;by_cases HY:i<ds.length
 ·have hd:ds[i]?=some ds[i]:=by simp[HY]
  obtain⟨g1,g2⟩:=jg i ds[i] hd;rw[TX HY]at ec;unfold Dm.d7 at ec;refine .inr ⟨g1,fun y H2 yy=>?_⟩;obtain⟨H0',gr,rx⟩:=g2 y H2 yy;split at ec
  ·cases ec
  rename_i ρ3 e3;have t2:=ESt.grow sc gr;obtain⟨hD2,n02,no2⟩:=t2.bR hDl n0 nOc;have hp2:=fun q e=>t2.bR (hpc q e).1 (hpc q e).2.1 (hpc q e).2.2;refine hb H0' H2 σ' ρc ρ3 y ds[i] _ t2.st rx e3 fun σ3 st3 o3 k3 d3 _=>?_;have no3:¬ai σ3 ρ3 D:=fun z=>no2 (o3 D z);have po3:∀q,pa=some q->¬ai σ3 ρ3 q.1:=fun q e z=>(hp2 q e).2.2 (o3 q.1 z);have hσ3:∀j,j<σ.length->σ3[j]?=σ[j]?:=fun j hj=>(k3 j fun z=>UC.mpr (hl j z) hj).trans (hσ j hj);have ho3:∀a,ai σ3 ρ3 a->ai σ ρ1 a:=fun a z=>ho a (o3 a z);have Oi:∀j,Def ρ1 j->Def ρ3 j:=fun j z=>d3 j (hdf j z);have sp3:Stp (ai σ ρ1) H00 Hb H0' H2:=sp.trans t2.stp fun a z=>.inl (ho a z);have ra3:=ra.mono gr.s0;have s3:ak H00 H0':=s00.trans gr.s0;split at ec
  ·cases ec
  ·rename_i ρ4 e4;refine⟨H0',ρ3,false,ρ4,st3,e4,fun K6 H'' t4=>?_⟩;dsimp only;rw[if_neg S3];obtain⟨hD4,n04,no4⟩:=t4.bR hD2 n02 no3;have hp4:=fun q e=>t4.bR (hp2 q e).1 (hp2 q e).2.1 (po3 q e);exact⟨ds.length-(i+1),by omega,K6,ρ4,AR,xC,t4.st,s3.trans t4.stp.s0,rfl,HY,ec,hD4,ra3.mono t4.stp.s0,n04,Nat.le_succ_of_le hal,sp3.trans t4.stp fun a z=>.inl (ho3 a z),hσ3,fun a z=>ho3 a (t4.own a z),fun j z=>t4.dfn j (Oi j z),hp4⟩
  ·rename_i ρ4 e4;refine⟨H0',ρ3,true,ρ4,st3,e4,fun K6 H'' t4=>?_⟩;dsimp only;rw[if_pos rfl];obtain⟨hD4,n04,no4⟩:=t4.bR hD2 n02 no3;have hp4:=fun q e=>t4.bR (hp2 q e).1 (hp2 q e).2.1 (po3 q e);split at ec
   ·cases ec
   rename_i x5 ρ5 e5;split at ec
   ·cases ec
   rename_i y6 ρ6 e6;refine⟨K6,ρ4,x5,ρ5,t4.st,e5,fun v H5 Hc t5 r5=>?_⟩;obtain⟨H6,t6,b6,r6,_,_⟩:=take1 t5 (ak.refl _) r5 e6;obtain⟨hD6,n06,no6⟩:=t6.bR hD4 n04 no4;have hp6:=fun q e=>t6.bR (hp4 q e).1 (hp4 q e).2.1 (hp4 q e).2.2;refine⟨xC,hD6,?_,ds.length-(i+1),by omega,H6,ρ6,AR++[y6],xC++[v],t6.st.aside n06 no6,(s3.trans t4.stp.s0).trans t6.stp.s0,rfl,HY,ec,ao,?_,n06,?_,?_,hσ3,fun a z=>ho3 a (t4.own a (t6.own a z)),fun j z=>t6.dfn j (t4.dfn j (Oi j z)),fun q e=>⟨by rw[aq (hpD q e)];exact(hp6 q e).1,(hp6 q e).2.1,(hp6 q e).2.2⟩⟩
   ·rw[ra.length];unfold Dm.SZ at hsz;exact VD (S8 hal (S8 (US HY) hsz)) (by decide)
   ·exact((ra3.mono t4.stp.s0).mono t6.stp.s0).append (.cons r6 .nil)
   ·rw[SJ,Uv];omega
   ·exact((sp3.trans t4.stp fun a z=>.inl (ho3 a z)).trans t6.stp fun a z=>.inl (ho3 a (t4.own a z))).aside hD
 ·have e':i=ds.length:=by omega
  subst e';rw[Up]at ec;cases ec;refine .inl ⟨js _ (SA _),k _ H0c H' ?_ ?_ fun q e=>⟨(hpc q e).1,(hpc q e).2.1⟩⟩
  ·have Fd:σ.length<=ρ2.length:=by
    rw[<- sc.len];refine UC.mp fun z=>?_;have q:=hσ σ'.length z;rw[Tj (SA _),SK z]at q;cases q
   have tk:∀{j:Nat} {c:Dm.Cell},(ρ2.take ρ1.length)[j]?=some c->j<σ.length/\ρ2[j]?=some c:=fun {j c} h=>by
    have hj:j<ρ1.length:=by have:=(Su.mp h).1;rw[TJ]at this;omega
    rw[UG hj]at h;exact⟨by rw[st1.len];exact hj,h⟩
   have own':∀a,ai σ (ρ2.take ρ1.length) a->ai σ' ρ2 a:=fun a ⟨j,d,h1,h2⟩=>by obtain⟨hj,h1⟩:=tk h1;exact⟨j,d,h1,(hσ j hj).trans h2⟩
   refine⟨⟨sc.same,?_,fun j d h=>?_,fun j d h=>?_,fun j j' d d' a h1 h2 h3 h4=>?_⟩,sp,fun a z=>ho a (own' a z),fun j z=>?_⟩
   ·rw[TJ,<- st1.len];omega
   ·obtain⟨hj,h⟩:=tk h;obtain⟨v,q,r⟩:=sc.sh j d h;exact⟨v,(hσ j hj).symm.trans q,r⟩
   ·obtain⟨hj,h⟩:=tk h;obtain⟨v,q,r⟩:=sc.ow j d h;exact⟨v,(hσ j hj).symm.trans q,r⟩
   ·obtain⟨hj,h1⟩:=tk h1;obtain⟨hj',h2⟩:=tk h2;exact sc.dis j j' d d' a h1 h2 ((hσ j hj).trans h3) ((hσ j' hj').trans h4)
   ·trivial
  ·refine⟨D,rfl,hD,fun⟨j,d,h1,h2⟩=>?_,n0,xC,hDl,ra⟩;have hj:j<ρ1.length:=by
    have:=(Su.mp h1).1;rw[TJ]at this;omega
   rw[UG hj]at h1;exact nOc ⟨j,d,h1,(hσ j (by rw[st1.len];exact hj)).trans h2⟩
theorem sd{own:Nat}{el:Dm.FE}(hb:BD is g bd)(hl:∀i∈is,σ.length<=i)(h:tD (Dm.cC fi own bd t el) σ H Q) :
  tLC (tDI fi) own g (tDT t) (tD el) σ H Q:=by
 obtain⟨H0,ρ,x,ρ',st,e,k⟩:=h;unfold Dm.cC at e;split at e
 ·cases e
 rename_i ds ρ1 e1;split at e
 case isFalse=>cases e
 rename_i hsz;split at e
 ·cases e
 rename_i ys ρ2 e2;cases e;refine⟨H0,ρ,ds,ρ1,st,e1,fun J H00 Hb t1 jw D hD=>ur (pa:=none) hb hl t1.st (fun q e=>by cases e) (fun H0 H s0 s1 _=>jw H0 H s0 s1) hsz e2 (fun v H0' H' t2 r2 _=>k v H0' H' (t1.trans t2) (r2.early fun a n=>t1.stp.gone n)) D hD⟩
theorem aK{n m:Nat}{H:Hp}(h:spD (Dm.fn n m body) vs H Q E):vs.length=n:=by
 obtain⟨H0,ds,z,s,rs,e,k⟩:=h;unfold Dm.fn at e;split at e
 ·rename_i hl;rw[rs.length];exact hl
 ·cases e
theorem bG{N:List Str}{n m:Nat}(hm:N.length=n+m)(h:spD (Dm.fn n m body) vs H Q E) :
  tDS body { nx:=fun _ H'=>Q .non H',rt:=Q } (start N vs) H:=by
 have hvn:=aK h;obtain⟨H0,ds,z,s,rs,e,k⟩:=h;have hl:=rs.length;have no:∀a,¬ai (start N vs) (ds.map Dm.Cell.sh++Sv m .un) a:=fun a ⟨i,d,h1,_⟩=>by
  by_cases hi:i<ds.length
  ·rw[SM (by simpa using hi),SS]at h1;cases q:ds[i]? with
   |none=>rw[q]at h1;cases h1
   |some y=>rw[q]at h1;cases h1
  ·rw[Tc (by simpa using hi),Tz]at h1;split at h1<;>cases h1
 have st:av H0 H (start N vs) (ds.map Dm.Cell.sh++Sv m .un):=by
  refine⟨s,?_,fun i d h=>?_,fun i d h=>?_,fun i j d e a h1 h2 _ _=>?_⟩
  ·unfold L2.start;simp only[SJ,Ss,Ut];omega
  ·have hi:i<ds.length:=by
    by_cases hi:i<ds.length
    ·exact hi
    ·rw[Tc (by simpa using hi),Tz]at h;split at h<;>cases h
   rw[SM (by simpa using hi),SS]at h;cases q:ds[i]? with
   |none=>rw[q]at h;cases h
   |some y=>rw[q]at h;cases h;obtain⟨v,hv,r⟩:=rs.get q;refine⟨v,?_,r⟩;unfold L2.start;rw[SM (by simpa [hl] using hi),SS,hv];rfl
  ·by_cases hi:i<ds.length
   ·rw[SM (by simpa using hi),SS]at h;cases q:ds[i]? with
    |none=>rw[q]at h;cases h
    |some y=>rw[q]at h;cases h
   ·rw[Tc (by simpa using hi),Tz]at h;split at h<;>cases h
  ·by_cases hi:i<ds.length
   ·rw[SM (by simpa using hi),SS]at h1;cases q:ds[i]? with
    |none=>rw[q]at h1;cases h1
    |some y=>rw[q]at h1;cases h1
   ·rw[Tc (by simpa using hi),Tz]at h1;split at h1<;>cases h1
 have gr:∀{H0' H'},Stp (ai (start N vs) (ds.map Dm.Cell.sh++Sv m .un)) H0 H H0' H'->ak H0' H'->aD H0 H H0' H':=fun {H0' H'} t ss=>⟨t.s0,fun a o e=>t.s1 a o e (no a),fun a o e=>(t.s2 a o e).imp id fun q=>q.elim id fun z=>absurd z (no a),ss⟩
 unfold Dm.fn at e;rw[if_pos (by rw[<- hl];exact hvn)]at e;split at e
 ·rename_i r ρ' e1;cases e;refine⟨H0,_,_,st,e1,fun σ' v H0' H' t r _=>k v H0' H' (gr t.stp t.st.same) ?_⟩;cases z with
  |val d=>exact r
  |new d=>obtain⟨a,e,n,n0,w⟩:=r;exact⟨a,e,n.elim id fun z=>absurd z (no a),n0,w⟩
 ·rename_i ρ' e1;cases e;exact⟨H0,_,_,st,e1,fun σ' H0' H' t=>k _ H0' H' (gr t.stp t.st.same) .non⟩
 ·cases e
end
end
open PySem PySem.Spec PyProof.Rows L2
noncomputable def aW(X:Cx)(nm:List Str)(scope:Scope)(own:List Str)(cl:List (Str×Addr))(C:Addr)(s:Shared)(H:Hp)(fp:List Addr):Cx where
 prog:=X.prog
 w:=X.w
 K:=X.K
 mg:=X.mg
 base:=X.base
 A:=X.A
 N:=nm++own
 s₀:=s
 H₀:=H
 env:=compEnvC scope cl C X.env
 outer:=X.stack
 stack:=X.stack
 ex:=fp
 fn:=fun _=>false
 calm:=X.calm
 pn:=[]
 xe:=fun _ _=>False
def PTs(X:Cx)(PB:List Expr)(t:TT):Prop:=
 ∀(uW:List (Addr×Obj)) (s:Shared) (σ:L2.St) (H:Hp) (Q:Bool->Hp->Prop),Inv X uW σ H s->t σ H Q ->
  wpAny (model X.prog X.w) X.A (forIn PB true fun c r=>if r=true then do let ok <- isTrue c X.env (eval c X.env);pure (Ul ok) else pure (Ul r)) (TP X uW σ Q) X.xe s
def GI:TT:=fun _ H Q=>Q true H
theorem yY{X:Cx}:PTs X [] GI:=fun uW s σ H Q I h=>wpAny_tests_nil ⟨H,I,h⟩
theorem GJ{X:Cx}{c:Expr}{t:TT}(h:PT X c t):PTs X [c] t:=fun uW s σ H Q I hq=>wpAny_tests_one (h uW s σ H Q I hq)
theorem d_(env:Env):∀(names:List (Str×NameKind)) (cs:List (Str×Addr)),(∀y∈names,y.2=.free->∃c,env.cells.lookup y.1=some c) ->
  ∃cl,(forIn names cs fun(x:Str×NameKind) (r:List (Str×Addr))=>(if (x.2 == NameKind.free)=true then do let c <- cellOf env x.1;pure (Ul ((x.1,c)::r)) else pure (Ul r):Sem (ForInStep (List (Str×Addr)))))=pure cl /\
   (∀x c,cl.lookup x=some c->env.cells.lookup x=some c\/cs.lookup x=some c)/\(∀y∈names,y.2=.free->∃c,cl.lookup y.1=some c)/\(∀x c,cs.lookup x=some c->∃c',cl.lookup x=some c')
 |[],cs,_=>⟨cs,rfl,fun _ _ h=>.inr h,fun _ h=>(nomatch h),fun _ c h=>⟨c,h⟩⟩
 |(n,k)::r,cs,h=>by
  have hr:∀y∈r,y.2=.free->∃c,env.cells.lookup y.1=some c:=fun y hy=>h y (Sy _ hy);by_cases hk:k=.free
  ·subst hk;obtain⟨c,hc⟩:=h (n,.free) Sw rfl;obtain⟨cl,e,h1,h2,h3⟩:=d_ env r ((n,c)::cs) hr;refine⟨cl,?_,fun x c' q=>?_,fun y hy hf=>?_,fun x c' q=>?_⟩
   ·rw[List.forIn_cons];have e1:cellOf env n=pure c:=by unfold cellOf;rw[hc]
    simp only[beq_self_eq_true,if_true,e1,pure_bind];exact e
   ·rcases h1 x c' q with z | z
    ·exact .inl z
    ·rw[TL]at z;cases hx:x == n with
     |true=>
      rw[hx]at z;have:x=n:=by simpa using hx
      subst this;injection z with z
      subst z;exact .inl hc
     |false=>rw[hx]at z;exact .inr z
   ·rcases SD.mp hy with rfl | hy
    ·exact h3 n c (by rw[TL,beq_self_eq_true])
    ·exact h2 y hy hf
   ·by_cases hx:x=n
    ·subst hx;exact h3 x c (by rw[TL,beq_self_eq_true])
    ·have hx':(x == n)=false:=by simpa using hx
     exact h3 x c' (by rw[TL,hx'];exact q)
  ·have hb:(k == NameKind.free)=false:=by simpa using hk
   obtain⟨cl,e,h1,h2,h3⟩:=d_ env r cs hr;refine⟨cl,?_,h1,fun y hy hf=>?_,h3⟩
   ·rw[List.forIn_cons];simp only[hb,Tw,if_false,pure_bind];exact e
   ·rcases SD.mp hy with rfl | hy
    ·exact absurd hf hk
    ·exact h2 y hy hf
theorem nu{env:Env}{scope:Scope}(h:∀y∈scope.names,y.2=.free->∃c,env.cells.lookup y.1=some c) :
  ∃cl,closureFor scope env=pure cl/\(∀x c,cl.lookup x=some c->env.cells.lookup x=some c)/\∀y∈scope.names,y.2=.free->∃c,cl.lookup y.1=some c:=by
 obtain⟨cl,e,h1,h2,_⟩:=d_ env scope.names [] h;refine⟨cl,?_,fun x c q=>(h1 x c q).elim id fun z=>by simp at z,h2⟩;unfold closureFor;have e':(forIn scope.names ([]:List (Str×Addr)) fun(x:Str×NameKind) (r:List (Str×Addr))=>(if (x.2 == NameKind.free)=true then do let c <- cellOf env x.1;pure (Ul ((x.1,c)::r)) else pure (Ul r):Sem (ForInStep (List (Str×Addr)))))=pure cl:=e
 first
  |(rw[show (forIn scope.names ([]:List (Str×Addr)) _:Sem (List (Str×Addr)))=pure cl from e'];rfl)
  |(simp only[e'];rfl)
theorem se{prog:Program}{w:World}{A:Around}{R:Result->Shared->Prop}{s:Shared}{PK target iter:Expr}{PB:List Expr}{scope:Scope}{pos:Pos}{it En:Value}{env:Env}(I:Nat->Shared->Prop)
  (turn:∀ n s,I n s→wpAny (model prog w) A (pyNext it) (fun r s₁=>match r with
   |none=>R (.ok .next) s₁
   | some v=>wpAny (model prog w) A (letOwnedTupleGo target it v) (fun _ s₁'=>wpAny (model prog w) A (assign target env v) (fun _ s₂=>
     wpAny (model prog w) A (forIn PB true fun c r=>if r=true then do let ok ← isTrue c env (eval c env);pure (Ul ok) else pure (Ul r)) (fun ok s₃=>
      if ok=true then wpAny (model prog w) A (eval PK env) (fun x s₄=>wpAny (model prog w) A (call (.builtin "list.append") [En,x]) (fun _ s₅=>∃m,m<n/\I m s₅) (fun _ _=>False) s₄) (fun _ _=>False) s₃
      else ∃m,m<n/\I m s₃) (fun _ _=>False) s₂) (fun _ _=>False) s₁') (fun _ _=>False) s₁) (fun _ _=>False) s)
  (n:Nat) (h:I n s) :
  codeAny (model prog w) A (.compLoop (.ListComp PK [⟨target,iter,PB,0⟩] scope pos) 0 it En env) R s:=by
 have no:∀{P:Value->Shared->Prop} (x:Value) (s':Shared),False->P x s':=fun _ _ f=>f.elim;refine codeAny_loop rfl I (fun n s hI=>?_) n h;show wpAny _ A ((compTurn (.ListComp PK [⟨target,iter,PB,0⟩] scope pos) 0 it En env).onRaise (fun x=>do noteFrame x env;theTreesLotGoes x)) _ _ s;refine wpAny_noted ?_;rw[compTurn_list];refine wpAny_bind (wpAny_standAt (wpAny_bind (wpAny_mono (turn n s hI) (fun r s₁ h₁=>?_) no)));cases r with
 |none=>exact wpAny_pure h₁
 |some v=>
  refine wpAny_bind (wpAny_mono h₁ (fun _ s₁' h₁'=>?_) no);refine wpAny_bind (wpAny_mono h₁' (fun _ s₂ h₂=>wpAny_bind (wpAny_mono h₂ (fun ok s₃ h₃=>?_) no)) no);cases ok with
  |false=>exact wpAny_pure ⟨rfl,h₃⟩
  |true=>exact wpAny_bind (wpAny_bind (wpAny_mono h₃ (fun x s₄ h₄=>wpAny_bind (wpAny_mono h₄ (fun _ s₅ h₅=>wpAny_pure (wpAny_pure ⟨rfl,h₅⟩)) no)) no))
theorem cR(env:Env):∀(names:List (Str×NameKind)) (x:Str) (k:NameKind),
  (names.map fun(n,k)=>if (k == NameKind.free&&env.scope.kind == .function&&env.kindOf n == some .cell) then (n,Wf) else (n,k)).lookup x=some k ->
  ∃k0,names.lookup x=some k0/\(k=k0\/(k0=.free/\k=.cell))
 |[],x,k,h=>by simp at h
 |(n,k1)::r,x,k,h=>by
  have h:List.lookup x ((if (k1 == NameKind.free&&env.scope.kind == .function&&env.kindOf n == some .cell)=true then (n,Wf) else (n,k1))::r.map fun(n,k)=>if (k == NameKind.free&&env.scope.kind == .function&&env.kindOf n == some .cell) then (n,Wf) else (n,k))=some k:=h;cases hx:x == n with
  |true=>
   by_cases hc:(k1 == NameKind.free&&env.scope.kind == .function&&env.kindOf n == some .cell)=true
   ·rw[if_pos hc,TL,hx]at h;injection h with h
    have hk:k1=.free:=by simp only[SQ,beq_iff_eq]at hc;exact hc.1.1
    exact⟨k1,by rw[TL,hx],.inr ⟨hk,h.symm⟩⟩
   ·rw[if_neg hc,TL,hx]at h;injection h with h
    exact⟨k1,by rw[TL,hx],.inl h.symm⟩
  |false=>
   by_cases hc:(k1 == NameKind.free&&env.scope.kind == .function&&env.kindOf n == some .cell)=true
   ·rw[if_pos hc,TL,hx]at h;obtain⟨k0,e,z⟩:=cR env r x k h;exact⟨k0,by rw[TL,hx];exact e,z⟩
   ·rw[if_neg hc,TL,hx]at h;obtain⟨k0,e,z⟩:=cR env r x k h;exact⟨k0,by rw[TL,hx];exact e,z⟩
structure c_(X:Cx)(nm:List Str)(scope:Scope):Prop where
 kind:scope.kind=.function
 cell:∀y∈scope.names,y.2≠.cell
 names:∀y∈scope.names,y.2=.local->scope.names.lookup y.1=some .local
 free:∀y∈scope.names,y.2=.free->X.env.kindOf y.1=some .cell\/X.env.kindOf y.1=some .free
 apart:∀x∈nm,scope.names.lookup x≠some .local
 len:nm.length=X.N.length
 mask:∀(i:Nat) (x:Str),nm[i]?=some x->X.N[i]?=some x\/scope.names.lookup x=none
section
variable{X:Cx}{nm:List Str}{PK tg iter:Expr}{PB:List Expr}{scope:Scope}{pos:Pos}{own:List Str}{wi:TI}{g:TG}{tt:TT}{te:TE}
theorem qK{uW:List (Addr×Obj)}{s2:Shared}{σ:L2.St}{H2:Hp}{cl:List (Str×Addr)}{it:Addr}{fp:List Addr}{tn:Nat->Heap->Prop}{J:It}{Q:VK}{E:Value->Shared->Prop}{RR:Value->Addr->Result->Shared->Prop}
  (hc:X.calm=true) (S:c_ X nm scope) (nv:∀x c,cl.lookup x=some c->X.env.cells.lookup x=some c) (AS:∀y∈scope.names,y.2=.free->∃c,cl.lookup y.1=some c)
  (hg:∀cl C s H fp,PG (aW X nm scope own cl C s H fp) tg g) (ht:∀cl C s H fp,PTs (aW X nm scope own cl C s H fp) PB tt) (he:∀cl C s H fp,PE (aW X nm scope own cl C s H fp) PK te)
  (I2:Inv X uW σ H2 s2) (T:Turn X.prog X.w X.K tg J fp it tn) (st2:tn 0 s2.heap) (f2:∀b∈fp,ql X uW H2 b)
  (hR:∀ D,H2 D=none→∃ W:Nat→Nat→L2.St→Hp→Prop,
   (∃m,W 0 m (σ++Sv own.length none) (upd H2 D (.lst [])))/\∀i m σ' H',W i m σ' H' ->
    (J.stop i H'∧Q (.ref D) H')∨(J.go i H'∧∀ x H2,J.yld i H' x H2→g x σ' H2 fun σ2 H3=>tt σ2 H3 fun b H4=>if b=true
     then te σ2 H4 fun y H5=>∃En,H5 D=some (.lst En)/\En.length<sizeLine/\∃m',m'<m/\W (i+1) m' σ2 (upd H5 D (.lst (En++[y])))
     else ∃m',m'<m/\W (i+1) m' σ2 H4))
  (Q8:∀D C H6 s6,Inv X uW σ H6 s6->H6 C=none->C≠X.env.locals->X.s₀.heap.objs.size<=C->(∀x c,X.env.cells.lookup x=some c->c≠C)->(∀p∈X.pn++uW,p.1≠C)->(∃m,s6.heap.Ns C m)->Q (.ref D) H6->RR (.ref D) C (.ok .next) s6) :
  wpAny (model X.prog X.w) X.A (newList []) (fun En s₃=>wpAny (model X.prog X.w) X.A (newFunctionEnv scope X.env.globals cl [] X.env.qual none .none (some X.env)) (fun cenv s₄=>codeAny (model X.prog X.w) X.A (.compStart (.ListComp PK [⟨tg,iter,PB,0⟩] scope pos) 0 (.ref it) En { cenv with scope:=relabel scope X.env }) (RR En cenv.locals) s₄) E s₃) E s2:=by
 have no:∀{P:Value->Shared->Prop} (x:Value) (s':Shared),False->P x s':=fun _ _ f=>f.elim;refine wpAny_newObj_type (wpAny_newFunctionEnv S.cell (by intro y hy;simp at hy) (fun h₁ hns₁ hsb₁=>?_) S.kind);dsimp only at hns₁ hsb₁ ⊢;have I3:Inv X uW σ (upd H2 s2.heap.objs.size (.lst [])) { s2 with heap:=s2.heap.push { cls:=.type "list",dict:=none,data:=.seq ([]:List Value).toArray } }:=I2.KH (t':=s2.toks) (ys:=[]) (its:=[]) .nil (S6 _)
 generalize hG2:s2.heap.push { cls:=.type "list",dict:=none,data:=.seq ([]:List Value).toArray }=G2 at hns₁ hsb₁ I3 ⊢
 have hC:G2.objs.size=s2.heap.objs.size+1:=by rw[<- hG2,UE]
 have up2:∀b o,s2.heap.get? b=some o->G2.get? b=some o:=fun b o e=>hG2▸Sz _ e;have up3:∀b o,G2.get? b=some o->h₁.get? b=some o:=fun b o e=>hsb₁.extBut b o (S7 (SI e)) (Sz _ e);have Q9:G2.get? G2.objs.size=none:=Heap.get?_none_of_le (SA _);have fpo:∀b∈fp,∃o,s2.heap.get? b=some o:=fun b hb=>by obtain⟨o,e,_⟩:=T.obj 0 _ st2 b hb;exact⟨o,e⟩
 have fpC:∀b∈fp,b≠G2.objs.size:=fun b hb=>by obtain⟨o,e⟩:=fpo b hb;exact S7 (SI (up2 b o e))
 have H3C:(upd H2 s2.heap.objs.size (.lst [])) G2.objs.size=none:=I3.hok.fresh (SA _);have fpD:∀b∈fp,b≠s2.heap.objs.size:=fun b hb=>by obtain⟨o,e⟩:=fpo b hb;exact S7 (SI e)
 have Oj:∀b∈fp,b∉frs X.stack:=fun b hb z=>by
  rcases SD.mp (I3.wV b z) with y | y
  ·exact(f2 b hb).2.1 y
  ·exact(f2 b hb).2.2.1 y
 have ok':(aW X nm scope own cl G2.objs.size { s2 with heap:=G2 } (upd H2 s2.heap.objs.size (.lst [])) fp).Ok:=by
  refine ⟨I3.ok.mod,S.kind,I3.ok.glob,I3.ok.blt,SA _,fun x y c e1 e2=>I3.ok.inj x y c (nv x c e1) (nv y c e2),fun x hx=>?_,fun x c z=>(nomatch z),I3.ok.hd,I3.ok.frames,.inl rfl,
   fun b hb=>⟨fpC b hb,fun x c e=>(f2 b hb).2.2.2.2.1 x c (nv x c e)⟩,fun b o e=>I3.bs b o e,S8 I3.ok.bsz I3.sz,fun b o e hb=>?_,fun b hb=>Oj b hb,I3.stack,I3.yJ⟩
  ·have hx:(relabel scope X.env).names.lookup x=some .cell\/(relabel scope X.env).names.lookup x=some .free:=hx;have key:∀k,(relabel scope X.env).names.lookup x=some k->k≠.local->k=.cell\/k=.free->∃c,cl.lookup x=some c:=fun k hk _ hkk=>by
    obtain⟨k0,e0,z⟩:=cR X.env scope.names x k hk;have m0:=PySem.mem_of_lookup e0;have f0:k0=.free:=by
     rcases z with z | z
     ·subst z;rcases hkk with q | q
      ·exact absurd q (S.cell _ m0)
      ·exact q
     ·exact z.1
    exact AS (x,k0) m0 f0
   rcases hx with hx | hx
   ·exact key _ hx (by decide) (.inl rfl)
   ·exact key _ hx (by decide) (.inr rfl)
  ·rcases (f2 b hb).2.2.2.1 with z | z
   ·exact I3.ok.BO b o e z
   ·exact absurd (SX (SI e) (S8 I3.ok.bsz z)) (TU _)
 have stat:∀{H':Hp},(∀b∈fp,H' b=none)->∀b∈fp,ql (aW X nm scope own cl G2.objs.size { s2 with heap:=G2 } (upd H2 s2.heap.objs.size (.lst [])) fp) [] H' b:=fun hn b hb=>⟨hn b hb,fpC b hb,Oj b hb,.inl hb,fun x c e=>(f2 b hb).2.2.2.2.1 x c (nv x c e),fun p hp=>(nomatch (show p∈([]:List (Addr×Obj)) from hp))⟩
 have I4:Inv (aW X nm scope own cl G2.objs.size { s2 with heap:=G2 } (upd H2 s2.heap.objs.size (.lst [])) fp) [] (σ++Sv own.length none) (upd H2 s2.heap.objs.size (.lst [])) { s2 with heap:=h₁,toks:=s2.toks+([]:List (Str×Value)).length }:=by
  refine⟨ok',rfl,I3.bare,Un.kept up3,⟨_,hns₁,fun i x v e1 e2 e3=>?_⟩,fun x c e=>?_,H3C,fun x c e=>I3.g8 x c (nv x c e),fun p hp=>(nomatch (show p∈([]:List (Addr×Obj)) from hp)),I3.hok.kept up3,?_⟩
  ·have e1:(nm++own)[i]?=some x:=e1;have hi:i<σ.length:=by
    by_cases hi:i<σ.length
    ·exact hi
    ·rw[Tc (UC.mp hi),Tz]at e2;split at e2<;>cases e2
   rw[SM hi]at e2;rw[SM (by rw[S.len,<- I3.len];exact hi)]at e1;have key:∀k,(relabel scope X.env).names.lookup x=some k->k=.local\/k=.cell\/k=.free->scope.names.lookup x=some .free/\(k=.cell\/k=.free):=fun k hk hkk=>by
    obtain⟨k0,e0,z⟩:=cR X.env scope.names x k hk;have m0:=PySem.mem_of_lookup e0;have n1:k0≠.local:=fun y=>S.apart x (UA e1) (y▸e0);have n2:k0≠.cell:=S.cell _ m0;rcases z with z | z
    ·subst z;rcases hkk with q | q | q
     ·exact absurd q n1
     ·exact absurd q n2
     ·subst q;exact⟨e0,.inr rfl⟩
    ·obtain⟨z1,z2⟩:=z;subst z1;subst z2;exact⟨e0,.inl rfl⟩
   have hk:∃k,(relabel scope X.env).names.lookup x=some k/\(k=.cell\/k=.free)/\scope.names.lookup x=some .free:=by
    rcases (show (relabel scope X.env).names.lookup x=some .local\/(relabel scope X.env).names.lookup x=some .cell\/(relabel scope X.env).names.lookup x=some .free from e3) with q | q | q
    ·obtain⟨a,b⟩:=key _ q (.inl rfl);exact⟨_,q,b,a⟩
    ·obtain⟨a,b⟩:=key _ q (.inr (.inl rfl));exact⟨_,q,b,a⟩
    ·obtain⟨a,b⟩:=key _ q (.inr (.inr rfl));exact⟨_,q,b,a⟩
   obtain⟨k,hk1,hk2,hk3⟩:=hk;have m0:=PySem.mem_of_lookup hk3;obtain⟨c,hcc⟩:=AS (x,.free) m0 rfl;obtain⟨m,hn,hl⟩:=I3.loc;have hout:=S.free (x,.free) m0 rfl;have Q_:Vis X.env.scope x:=by
    rcases hout with q | q
    ·exact .inr (.inl q)
    ·exact .inr (.inr q)
   have e1':X.N[i]?=some x:=by
    rcases S.mask i x e1 with z | z
    ·exact z
    ·rw[z]at hk3;cases hk3
   obtain⟨u,ru,lk⟩:=hl i x v e1' e2 Q_;refine⟨u,ru,.inr ⟨?_,c,hcc,?_⟩⟩
   ·rcases hk2 with q | q
    ·subst q;exact .inl hk1
    ·subst q;exact .inr hk1
   ·rcases lk with⟨q,_⟩ | ⟨_,c',e',z⟩
    ·rcases hout with y | y
     ·rw[q]at y;cases y
     ·rw[q]at y;cases y
    ·rw[nv x c hcc]at e';cases e';obtain⟨o,ho,hd⟩:=z;exact⟨o,up3 c o ho,hd⟩
  ·obtain⟨v,o,ho,hd⟩:=I3.cell x c (nv x c e);exact⟨v,o,up3 c o ho,hd⟩
  ·show (σ++Sv own.length none).length=(nm++own).length;rw[SJ,SJ,Ut,I3.len,S.len]
 obtain⟨W,⟨m0,w0⟩,turn⟩:=hR s2.heap.objs.size I2.fresh;have st4:tn 0 h₁:=T.keep 0 _ _ st2 fun b hb o e=>up3 b o (up2 b o e);have Ra:∀b∈fp,(upd H2 s2.heap.objs.size (.lst [])) b=none:=fun b hb=>by rw[aq (fpD b hb)];exact(f2 b hb).1
 have Px:∀s₃:Shared,s₃={ s2 with heap:=h₁,toks:=s2.toks+([]:List (Str×Value)).length } ->
   codeAny (model X.prog X.w) X.A (.compLoop (.ListComp PK [⟨tg,iter,PB,0⟩] scope pos) 0 (.ref it) (.ref s2.heap.objs.size) (compEnvC scope cl G2.objs.size X.env))
    (RR (.ref s2.heap.objs.size) G2.objs.size) s₃:=by
  rintro s₃ rfl;refine se (fun n s'=>∃i σ' H',Inv (aW X nm scope own cl G2.objs.size { s2 with heap:=G2 } (upd H2 s2.heap.objs.size (.lst [])) fp) [] σ' H' s'/\tn i s'.heap/\(∀b∈fp,H' b=none)/\W i n σ' H') ?_ m0
   ⟨0,_,_,I4,st4,Ra,w0⟩
  rintro n s5 ⟨i,σ5,H5,I5,st5,fr5,w5⟩;rcases turn i n σ5 H5 w5 with⟨stop,q⟩ | ⟨go,step⟩
  ·refine wpAny_mono (T.done (aW X nm scope own cl G2.objs.size { s2 with heap:=G2 } (upd H2 s2.heap.objs.size (.lst [])) fp) rfl rfl rfl hc i [] s5 σ5 H5 (fun _ _=>False) I5 (stat fr5) st5 stop) (fun r s6 hr6=>?_) no;obtain⟨hr,I6⟩:=hr6;subst hr;have I7:Inv X uW σ H5 s6:=I3.NI (ch:=fp) I6.os I6.base I6.hok I6.bare fun b hb=>⟨(f2 b hb).2.2.2.1,(f2 b hb).2.1,(f2 b hb).2.2.2.2.1,(f2 b hb).2.2.2.2.2⟩;refine Q8 _ _ H5 s6 I7 I6.free (Uq (show X.env.locals<G2.objs.size from I3.lt)) I3.sz (fun x c e=>?_) (fun p hp=>?_) (let ⟨m,hn,_⟩:=I6.loc;⟨m,hn⟩) q
   ·obtain⟨v,z⟩:=I3.cell x c e;exact S7 z.lt
   ·exact S7 (SI (I3.pin p hp).1)
  ·refine wpAny_mono (T.item (aW X nm scope own cl G2.objs.size { s2 with heap:=G2 } (upd H2 s2.heap.objs.size (.lst [])) fp) rfl rfl rfl hc i [] s5 σ5 H5 (fun _ _=>False) I5 (stat fr5) st5 go) (fun r s6 hr6=>?_) no;obtain⟨u,hr,h6⟩:=hr6;subst hr;refine wpAny_mono h6 (fun _ s7 h7=>?_) no;obtain⟨x,H7,I7,r7,y7,st7,fr7⟩:=h7;have I7':=I7.pinned (stat fr7) (T.obj _ _ st7);have again:∀{s9:Shared} {σ9:L2.St} {H9:Hp} {m':Nat},m'<n->Inv (aW X nm scope own cl G2.objs.size { s2 with heap:=G2 } (upd H2 s2.heap.objs.size (.lst [])) fp) ([]++mX fp s7.heap) σ9 H9 s9->W (i+1) m' σ9 H9 ->
     ∃m,m<n/\∃i σ' H',Inv (aW X nm scope own cl G2.objs.size { s2 with heap:=G2 } (upd H2 s2.heap.objs.size (.lst [])) fp) [] σ' H' s9/\tn i s9.heap/\(∀b∈fp,H' b=none)/\W i m σ' H':=fun {s9 σ9 H9 m'} hm I9 w9=>by
    refine⟨m',hm,i+1,σ9,H9,I9.jL,T.keep _ _ _ st7 fun b hb o e=>(I9.pin (b,o) (S5 _ (S5 _ (ff hb e)))).1,fun b hb=>?_,w9⟩;obtain⟨o,e,d⟩:=T.obj _ _ st7 b hb;exact(I9.pin (b,o) (S5 _ (S5 _ (ff hb e)))).2.1
   refine wpAny_mono (hg cl G2.objs.size _ _ fp _ s7 σ5 H7 x u _ I7' r7 (step x H7 y7)) (fun _ s8 h8=>?_) no;obtain⟨σ8,H8,I8,q8⟩:=h8;refine wpAny_mono (ht cl G2.objs.size _ _ fp _ s8 σ8 H8 _ I8 q8) (fun b s9 h9=>?_) no;obtain⟨H9,I9,q9⟩:=h9;cases b with
   |false=>rw[if_neg S3]at q9 ⊢;obtain⟨m',hm,w9⟩:=q9;exact again hm I9 w9
   |true=>rw[if_pos rfl]at q9 ⊢;refine wpAny_mono (he cl G2.objs.size _ _ fp _ s9 σ8 H9 _ I9 q9) (fun y s10 h10=>?_) no;obtain⟨yv,H10,I10,r10,En,hacc,Fd,m',hm,w10⟩:=h10;refine wpAny_mono (gO (X:=aW X nm scope own cl G2.objs.size { s2 with heap:=G2 } (upd H2 s2.heap.objs.size (.lst [])) fp) _ s10 σ8 H10 (.ref s2.heap.objs.size) [yv] (.ref s2.heap.objs.size) [y] (fun _ H'=>H'=upd H10 s2.heap.objs.size (.lst (En++[yv]))) I10 rfl (.cons r10 .nil) ⟨_,En,yv,rfl,rfl,hacc,Fd,rfl⟩) (fun _ s11 h11=>?_) no;obtain⟨_,H11,I11,_,e11⟩:=h11;subst e11;exact again hm I11 w10
 exact codeAny_compStart_list (Px _ rfl) (T.self _ 0 _ _ _ st4 (Px _ rfl))
theorem yZ(hc:X.calm=true)(S:c_ X nm scope)(hi:PI X tg iter wi)
  (hg:∀cl C s H fp,PG (aW X nm scope own cl C s H fp) tg g) (ht:∀cl C s H fp,PTs (aW X nm scope own cl C s H fp) PB tt) (he:∀cl C s H fp,PE (aW X nm scope own cl C s H fp) PK te)
  (hs:∀x,foldedSetIterable iter X.env x=pure x:=by intro _;rfl):PE X (.ListComp PK [⟨tg,iter,PB,0⟩] scope pos) (tLC wi own.length g tt te):=by
 intro uW s σ H Q I h;obtain⟨cl,hclos,nv,AS⟩:=nu (env:=X.env) (scope:=scope) fun y hy hf=>I.ok.has y.1 (S.free y hy hf);rw[eval_ListComp];refine wpAny_comprehension_free (use:=none) rfl hs hclos S.kind S.names (thn (hi uW s σ H _ I h) fun v s1 h1=>thn h1 fun itv s2 h2=>?_);obtain⟨it,fp,tn,J,H2,e,I2,T,st2,f2,hR⟩:=h2;subst e;refine qK (Q:=Q) (RR:=fun En C=>compPost (model X.prog X.w) X.A X.xe none (EP X uW σ Q) En C) hc S nv AS hg ht he I2 T st2 f2 hR ?_;intro D C H6 s6 I6 hCn hCL hCs hCc hCp hns q;obtain⟨m,hn⟩:=hns;refine⟨m,hn,fun h' hs'=>⟨.ref D,H6,I6.turned (t':=s6.toks) (fun b o hb e=>(hs'.2 b hb).trans e) hCn hCL (.inr hCs) hCc hCp,rfl,q⟩⟩
theorem gj{i:Nat}{y:Str}{py PL:Pos}(hN:X.N.Nodup)(hi':X.N[i]?=some y)(hy:Loc X.env.scope y)(hc:X.calm=true)(S:c_ X nm scope)(hi:PI X tg iter wi)
  (hg:∀cl C s H fp,PG (aW X nm scope own cl C s H fp) tg g) (ht:∀cl C s H fp,PTs (aW X nm scope own cl C s H fp) PB tt) (he:∀cl C s H fp,PE (aW X nm scope own cl C s H fp) PK te)
  (hsw:swapsWith (.ListComp PK [⟨tg,iter,PB,0⟩] scope pos) (some (.Name y py)) PL.line X.env=pure true:=by rfl)
  (hs:∀x,foldedSetIterable iter X.env x=pure x:=by intro _;rfl) (hf:X.fn y=true\/X.env.scope.names.lookup y=some .local:=by trivial) :
  PS X (.Assign [.Name y py] (.ListComp PK [⟨tg,iter,PB,0⟩] scope pos) PL) (jK (tLC wi own.length g tt te) (cH i)):=by
 intro uW s σ H Dn I h;obtain⟨cl,hclos,nv,AS⟩:=nu (env:=X.env) (scope:=scope) fun y hy hf=>I.ok.has y.1 (S.free y hy hf);rw[exec_Assign_Name_used _ _ _ _ hsw];refine wpAny_bind (wpAny_standAt (wpAny_bind ?_));show wpAny _ X.A (do let _ <- comprehension (.ListComp PK [⟨tg,iter,PB,0⟩] scope pos) scope X.env _ (newList []) false (eval iter X.env) (some (assign (.Name y py) X.env))) _ _ s;refine wpAny_bind (wpAny_mono (wpAny_comprehension_free (use:=some (assign (.Name y py) X.env)) (Q:=fun _ s'=>SP X uW Dn .next s') rfl hs hclos S.kind S.names
  (thn (hi uW s σ H _ I h) fun v s1 h1=>thn h1 fun itv s2 h2=>?_)) (fun _ s' hq=>wpAny_pure (wpAny_pure hq)) fun _ _ e=>e)
 obtain⟨it,fp,tn,J,H2,e,I2,T,st2,f2,hR⟩:=h2;subst e;refine qK (Q:=fun x H1=>cH i x σ H1 Dn.nx) (RR:=fun En C=>compPost (model X.prog X.w) X.A X.xe (some (assign (.Name y py) X.env)) (fun _ s'=>SP X uW Dn .next s') En C) hc S nv AS hg ht he I2 T st2 f2 hR ?_;intro D C H6 s6 I6 hCn hCL hCs hCc hCp hns q;obtain⟨m,hn⟩:=hns;show wpAny _ X.A (assign (.Name y py) X.env (.ref D)) _ _ _;refine wpAny_assign_Name (qA I6 hN hi' hy (v:=.ref D) rfl (fun s7 I7 h7=>?_) hf);obtain⟨a,sb,ha⟩:=h7;have hCa:C≠a:=by
  rcases ha with ha | ha
  ·rw[ha];exact hCL
  ·exact Ne.symm (hCc y a ha)
 refine⟨m,hn.sameBut sb hCa,fun h' hs'=>⟨_,H6,I7.turned (t':=s7.toks) (fun b o hb e=>(hs'.2 b hb).trans e) hCn hCL (.inr hCs) hCc hCp,q⟩⟩
end
mutual
noncomputable def toPy:Dm.Dat->PyData
 |.non=>.none
 |.bl b=>.bool b
 |.int i=>.int i
 |.str s=>.str ⟨s.toArray⟩
 |.tup xs=>.tuple (bV xs)
 |.lst xs=>.list (bV xs)
 |.dct _ _=>.dict []
 |.exc _=>.dict []
 |.fn _=>.dict []
noncomputable def bV:List Dm.Dat->List PyData
 |[]=>[]
 |x::xs=>toPy x::bV xs
end
mutual
theorem jZ:∀a b:Dm.Dat,Ud (toPy a) (toPy b)=Dm.eqD a b
 |.non,b=>by cases b<;>simp[toPy,Ud,Dm.eqD]
 |.bl x,b=>by cases b<;>simp[toPy,Ud,Dm.eqD,Dm.b2i]
 |.int x,b=>by cases b<;>simp[toPy,Ud,Dm.eqD,Dm.b2i]
 |.str x,b=>by
  cases b with
  |str y=>
   simp only[toPy,Ud,Dm.eqD];rw[V3];simp only[beq_iff_eq];constructor
   ·intro h;have h:=congrArg (fun s:Str=>s.cps.toList) h
    simpa using h
   ·rintro rfl;rfl
  |_=>simp[toPy,Ud,Dm.eqD]
 |.tup xs,b=>by
  cases b with
  |tup ys=>simp only[toPy,Ud,Dm.eqD];exact kQ xs ys
  |_=>simp[toPy,Ud,Dm.eqD]
 |.lst xs,b=>by
  cases b with
  |lst ys=>simp only[toPy,Ud,Dm.eqD];exact kQ xs ys
  |_=>simp[toPy,Ud,Dm.eqD]
 |.dct ks vs,b=>by cases b<;>simp[toPy,Ud,Dm.eqD]
 |.exc C,b=>by cases b<;>simp[toPy,Ud,Dm.eqD]
 |.fn C,b=>by cases b<;>simp[toPy,Ud,Dm.eqD]
theorem kQ:∀a b:List Dm.Dat,VI (bV a) (bV b)=Dm.jS a b
 |[],b=>by cases b<;>simp[bV,VI,Dm.jS]
 |x::xs,b=>by
  cases b with
  |nil=>simp[bV,VI,Dm.jS]
  |cons y ys=>simp only[bV,VI,Dm.jS];rw[jZ x y,kQ xs ys]
end
theorem Cy{s:List Nat}(h:(s.all fun c=>decide (c<128))=true):PyData.strOk ⟨s.toArray⟩=true:=by unfold PyData.strOk;rw[Array.all_eq_true'];intro c hc;have h1:=TM.mp h c (by simpa using hc);have h2:c<128:=of_decide_eq_true h1;exact decide_eq_true (by omega)
theorem bW{P:Program}{w:World}{H:Hp}{h:Heap}(ok:HOk P w H h):∀(n:Nat),
  (∀(v:V) (d:Dm.Dat) (u:Value),Rep H v d->RelV v u->Dm.okD n d=true->∃as,Reads h u (toPy d) as/\(toPy d).canLay0=true/\(toPy d).depth<=n) /\
  (∀(vs:List V) (ds:List Dm.Dat) (us:List Value),az H vs ds->Vals vs us->ds.all (Dm.okD n)=true->∃as,ReadsAll h us (bV ds) as/\VN (bV ds)=true/\Uc (bV ds)<=n):=by
 intro n
 induction n with
 |zero=>
  have one:∀(v:V) (d:Dm.Dat) (u:Value),Rep H v d->RelV v u->Dm.okD 0 d=true->∃as,Reads h u (toPy d) as/\(toPy d).canLay0=true/\(toPy d).depth<=0:=by
   intro v d u r rv k;cases r with
   |non=>cases rv;exact⟨_,.none,rfl,SA _⟩
   |bl b=>cases rv;exact⟨_,.bool b,rfl,SA _⟩
   |int i=>obtain⟨t,rfl⟩:=rv;exact⟨_,.int i t,rfl,SA _⟩
   |str s=>obtain⟨t,rfl⟩:=rv;exact⟨_,.str _ t,Cy k,SA _⟩
   |tup _ _=>cases k
   |lst _ _=>cases k
   |dct _ _ _=>cases k
   |exc _=>cases k
   |fn _=>cases k
  refine⟨one,fun vs ds=>?_⟩
  induction ds generalizing vs with
  |nil=>intro us r rv _;cases r;cases rv;exact⟨_,.nil,rfl,SA _⟩
  |cons d ds ih=>
   intro us r rv k;cases r with
   |cons r rs=>
    cases rv with
    |cons q qs=>rw[VJ,SQ]at k;obtain⟨a1,h1,h2,h3⟩:=one _ _ _ r q k.1;obtain⟨a2,h4,h5,h6⟩:=ih _ _ rs qs k.2;exact⟨_,.cons h1 h4,by simp[bV,VN,h2,h5],by simp only[bV,Uc];omega⟩
 |succ n ih=>
  have one:∀(v:V) (d:Dm.Dat) (u:Value),Rep H v d->RelV v u->Dm.okD (n+1) d=true->∃as,Reads h u (toPy d) as/\(toPy d).canLay0=true/\(toPy d).depth<=n+1:=by
   intro v d u r rv k;cases r with
   |non=>cases rv;exact⟨_,.none,rfl,S6 _⟩
   |bl b=>cases rv;exact⟨_,.bool b,rfl,S6 _⟩
   |int i=>obtain⟨t,rfl⟩:=rv;exact⟨_,.int i t,rfl,S6 _⟩
   |str s=>obtain⟨t,rfl⟩:=rv;exact⟨_,.str _ t,Cy k,S6 _⟩
   |tup q rs=>cases rv;obtain⟨z,its,vr,ob,e,hc,m,hd⟩:=ok _ _ q;obtain⟨as,h1,h2,h3⟩:=ih.2 _ _ _ rs vr k;exact⟨_,.tuple e hc hd h1,h2,by simp only[toPy,PyData.depth];omega⟩
   |lst q rs=>cases rv;obtain⟨z,its,m,vr,e⟩:=q.ok ok;obtain⟨as,h1,h2,h3⟩:=ih.2 _ _ _ rs vr k;exact⟨_,.list e rfl rfl h1,h2,by simp only[toPy,PyData.depth];omega⟩
   |dct _ _ _=>cases k
   |exc _=>cases k
   |fn _=>cases k
  refine⟨one,fun vs ds=>?_⟩
  induction ds generalizing vs with
  |nil=>intro us r rv _;cases r;cases rv;exact⟨_,.nil,rfl,S6 _⟩
  |cons d ds ih=>
   intro us r rv k;cases r with
   |cons r rs=>
    cases rv with
    |cons q qs=>rw[VJ,SQ]at k;obtain⟨a1,h1,h2,h3⟩:=one _ _ _ r q k.1;obtain⟨a2,h4,h5,h6⟩:=ih _ _ rs qs k.2;exact⟨_,.cons h1 h4,by simp[bV,VN,h2,h5],by simp only[bV,Uc];omega⟩
theorem kO.full{H0 H:Hp}(s:ak H0 H){v:V}{d:Dm.Dat}(r:kO H0 H v d):Rep H v d:=by
 rcases r with r | ⟨a,rfl,w⟩
 ·exact r.mono s
 ·cases d with
  |lst ds=>obtain⟨xs,q,rs⟩:=w;exact .lst (.inl q) (rs.mono s)
  |dct ks ds=>obtain⟨kvs,q,e,rs⟩:=w;exact .dct q e (rs.mono s)
  |_=>exact Tt w
def GK(neg:Bool):R2:=fun x y H Q=>∃dx dy,Rep H x dx/\Rep H y dy/\Dm.okD 8 dx=true/\Dm.okD 8 dy=true/\Q (.bl (if neg then !Dm.eqD dx dy else Dm.eqD dx dy)) H
section
variable{X:Cx}
section
variable{k:Nat}
theorem Cz(hr:bq k X.A):OpR X (compareOp .Eq) (GK false):=by intro uW s σ H x y v u Q I rx ry h;obtain⟨dx,dy,r1,r2,k1,k2,q⟩:=h;obtain⟨as,h1,h2,h3⟩:=(bW I.hok 8).1 x dx v r1 rx k1;obtain⟨bs,h4,h5,h6⟩:=(bW I.hok 8).1 y dy u r2 ry k2;have hu:=hr.units;refine PySem.SeqAt.compareEq_reads h1 h4 h2 h5 (by omega) ?_;rw[jZ];exact⟨.bl (Dm.eqD dx dy),H,I,rfl,q⟩
theorem CA(hr:bq k X.A):OpR X (compareOp .NotEq) (GK true):=by intro uW s σ H x y v u Q I rx ry h;obtain⟨dx,dy,r1,r2,k1,k2,q⟩:=h;obtain⟨as,h1,h2,h3⟩:=(bW I.hok 8).1 x dx v r1 rx k1;obtain⟨bs,h4,h5,h6⟩:=(bW I.hok 8).1 y dy u r2 ry k2;have hu:=hr.units;refine PySem.SeqAt.compareNe_reads h1 h4 h2 h5 (by omega) ?_;rw[jZ];exact⟨.bl (!Dm.eqD dx dy),H,I,rfl,q⟩
def GL(neg:Bool):R2:=fun x y H Q=>∃dx ds,Rep H x dx/\(Rep H y (.lst ds)\/Rep H y (.tup ds))/\Dm.okD 8 dx=true/\ds.all (Dm.okD 7)=true/\Q (.bl (if neg then !Dm.inD dx ds else Dm.inD dx ds)) H
theorem gk(x:Dm.Dat):∀ds:List Dm.Dat,((bV ds).any fun y=>Ud y (toPy x))=Dm.inD x ds
 |[]=>rfl
 |d::ds=>by have:=gk x ds;unfold Dm.inD at this ⊢;simp only[bV,Ux,jZ];rw[this]
theorem K7(hr:bq k X.A):OpR X (compareOp .In) (GL false):=by
 intro uW s σ H x y v u Q I rx ry h;obtain⟨dx,ds,r1,r2,k1,k2,q⟩:=h;obtain⟨as,h1,h2,h3⟩:=(bW I.hok 8).1 x dx v r1 rx k1;have hu:=hr.units;rcases r2 with r2 | r2
 ·obtain⟨bs,h4,h5,h6⟩:=(bW I.hok 8).1 y (.lst ds) u r2 ry k2;have h6:Uc (bV ds)+1<=8:=h6;refine PySem.SeqAt.in_list_reads h4 h1 h5 h2 (by omega) ?_;rw[gk];exact⟨.bl (Dm.inD dx ds),H,I,rfl,q⟩
 ·obtain⟨bs,h4,h5,h6⟩:=(bW I.hok 8).1 y (.tup ds) u r2 ry k2;have h6:Uc (bV ds)+1<=8:=h6;refine PySem.SeqAt.in_tuple_reads h4 h1 h5 h2 (by omega) ?_;rw[gk];exact⟨.bl (Dm.inD dx ds),H,I,rfl,q⟩
theorem qL(hr:bq k X.A):OpR X (compareOp .NotIn) (GL true):=by
 intro uW s σ H x y v u Q I rx ry h;obtain⟨dx,ds,r1,r2,k1,k2,q⟩:=h;obtain⟨as,h1,h2,h3⟩:=(bW I.hok 8).1 x dx v r1 rx k1;have hu:=hr.units;rcases r2 with r2 | r2
 ·obtain⟨bs,h4,h5,h6⟩:=(bW I.hok 8).1 y (.lst ds) u r2 ry k2;have h6:Uc (bV ds)+1<=8:=h6;refine PySem.SeqAt.notIn_list_reads h4 h1 h5 h2 (by omega) ?_;rw[gk];exact⟨.bl (!Dm.inD dx ds),H,I,rfl,q⟩
 ·obtain⟨bs,h4,h5,h6⟩:=(bW I.hok 8).1 y (.tup ds) u r2 ry k2;have h6:Uc (bV ds)+1<=8:=h6;refine PySem.SeqAt.notIn_tuple_reads h4 h1 h5 h2 (by omega) ?_;rw[gk];exact⟨.bl (!Dm.inD dx ds),H,I,rfl,q⟩
end
end
section
variable{H0 H:Hp}{ds:List Dm.Dat}{v:V}
theorem aA{i:Int}(r:kO H0 H v (.int i)):v=.int i:=by
 rcases r with r | ⟨a,_,w⟩
 ·exact Rep.isInt r
 ·exact Tt w
theorem y9{b:Bool}(r:kO H0 H v (.bl b)):v=.bl b:=by
 rcases r with r | ⟨a,_,w⟩
 ·exact Rep.rZ r
 ·exact Tt w
theorem bx(s:ak H0 H)(r:kO H0 H v (.lst ds)):∃a xs,v=.ref a/\Rd H a (.lst xs)/\az H0 xs ds:=by
 rcases r with r | ⟨a,e,xs,q,rs⟩
 ·cases r with
  |lst q rs=>exact⟨_,_,rfl,ak.rd s q,rs⟩
 ·exact⟨a,xs,e,.inl q,rs⟩
theorem eT(s:ak H0 H)(r:kO H0 H v (.tup ds)):∃a xs,v=.ref a/\H a=some (.tup xs)/\az H0 xs ds:=by
 rcases r with r | ⟨a,_,w⟩
 ·cases r with
  |tup q rs=>exact⟨_,_,rfl,s _ _ q,rs⟩
 ·exact Tt w
theorem K8:OpD (rI0 fun i j=>.int (i-j)) Dm.ir:=by
 intro H0 H x y dx dy z Q s rx ry e k;unfold Dm.ir at e;split at e
 ·cases e;cases aA rx;cases aA ry;exact⟨_,_,rfl,rfl,k _ H0 H (aD.refl s) (.int _)⟩
 ·cases e
theorem CB:OpD (rI0 fun i j=>.bl (decide (i<j))) Dm.gLt:=by
 intro H0 H x y dx dy z Q s rx ry e k;unfold Dm.gLt at e;split at e
 ·cases e;cases aA rx;cases aA ry;exact⟨_,_,rfl,rfl,k _ H0 H (aD.refl s) (.bl _)⟩
 ·cases e
theorem y_:OpD (rI0 fun i j=>.bl (decide (i<=j))) Dm.gLe:=by
 intro H0 H x y dx dy z Q s rx ry e k;unfold Dm.gLe at e;split at e
 ·cases e;cases aA rx;cases aA ry;exact⟨_,_,rfl,rfl,k _ H0 H (aD.refl s) (.bl _)⟩
 ·cases e
theorem Ol:OpD (rI0 fun i j=>.bl (decide (j<i))) Dm.gGt:=by
 intro H0 H x y dx dy z Q s rx ry e k;unfold Dm.gGt at e;split at e
 ·cases e;cases aA rx;cases aA ry;exact⟨_,_,rfl,rfl,k _ H0 H (aD.refl s) (.bl _)⟩
 ·cases e
theorem Om:OpD (rI0 fun i j=>.bl (decide (j<=i))) Dm.gGe:=by
 intro H0 H x y dx dy z Q s rx ry e k;unfold Dm.gGe at e;split at e
 ·cases e;cases aA rx;cases aA ry;exact⟨_,_,rfl,rfl,k _ H0 H (aD.refl s) (.bl _)⟩
 ·cases e
theorem K9:OpD (rI (fun _ j=>0<j) fun i j=>.int (i % j)) Dm.f9:=by
 intro H0 H x y dx dy z Q s rx ry e k;unfold Dm.f9 at e;split at e
 ·split at e
  ·rename_i hj;cases e;cases aA rx;cases aA ry;exact⟨_,_,rfl,rfl,hj,k _ H0 H (aD.refl s) (.int _)⟩
  ·cases e
 ·cases e
theorem K_:OpD (rI NR fun i j=>.int (i ^ j.toNat)) Dm.iz:=by
 intro H0 H x y dx dy z Q s rx ry e k;unfold Dm.iz at e;split at e
 ·split at e
  ·rename_i hj;cases e;cases aA rx;cases aA ry;exact⟨_,_,rfl,rfl,⟨hj.1,hj.2.1,Vo hj.2.2 (by decide)⟩,k _ H0 H (aD.refl s) (.int _)⟩
  ·cases e
 ·cases e
end
section
variable{X:Cx}
def IT(i j:Int):Prop:=0<j/\j<Dm.gY
theorem CC:OpR X (binaryOp .FloorDiv) (rI IT fun i j=>.int (i / j)):=opI fun i j _ _ _ _ _ hc q=>by
 have h:j.natAbs.log2<9000:=by
  have h1:j.natAbs<2 ^ 200:=by
   have:=hc.2;unfold Dm.gY at this;have h2:=hc.1;have e:(2:Nat) ^ 200=1606938044258990275541962092341162602522202993782792835301376:=by decide +kernel
   omega
  have h3:j.natAbs≠0:=by have:=hc.1;omega
  have:=(Nat.log2_lt h3).mpr h1;omega
 have e:i.fdiv j=i / j:=Int.fdiv_eq_ediv_of_nonneg i (VR hc.1);rw[<- e]at q;exact floordiv_int (Int.ne_of_gt hc.1) q (.inl (PyProof.noPylong_of_log2 h))
end
theorem La:OpD (rI IT fun i j=>.int (i / j)) Dm.xx:=by
 intro H0 H x y dx dy z Q s rx ry e k;unfold Dm.xx at e;split at e
 ·split at e
  ·rename_i hj;cases e;cases aA rx;cases aA ry;exact⟨_,_,rfl,rfl,hj,k _ H0 H (aD.refl s) (.int _)⟩
  ·cases e
 ·cases e
def CD:R2:=fun x y H Q=>∃l b xs zs,x=.ref l/\y=.ref b/\Rd H l (.lst xs)/\Rd H b (.lst zs)/\xs.length+zs.length<=sizeLine/\∀p,H p=none->Q (.ref p) (upd H p (.lst (xs++zs)))
def CF:R2:=fun x y H Q=>∃l k xs,x=.ref l/\y=.int k/\Rd H l (.lst xs)/\-(2 ^ 63)<=k/\k<2 ^ 63/\xs.length*k.toNat<=sizeLine /\
 ∀p,H p=none->Q (.ref p) (upd H p (.lst (Sv k.toNat xs).flatten))
section
variable{X:Cx}
theorem GN:OpR X (binaryOp .Add) CD:=by
 intro uW s σ H x y v u Q I rx ry h;obtain⟨l,b,xs,zs,rfl,rfl,hH,hB,hz,q⟩:=h;cases rx;cases ry;obtain⟨z,its,n,r,e⟩:=hH.ok I.hok;obtain⟨z2,its2,n2,r2,e2⟩:=hB.ok I.hok;have hl:=r.length;have hl2:=r2.length;refine PySem.P.add_list e e2 ?_ (by rw[SG,SG];omega);have ea:its.toArray++its2.toArray=(its++its2).toArray:=by simp
 rw[ea];exact⟨.ref _,_,I.KH (t':=s.toks) (r.append r2) (by rw[SJ];omega),rfl,q _ I.fresh⟩
theorem GO:OpR X (binaryOp .Mult) CF:=by
 intro uW s σ H x y v u Q I rx ry h;obtain⟨l,k,xs,rfl,rfl,hH,h1,h2,hz,q⟩:=h;cases rx;obtain⟨t,rfl⟩:=ry;obtain⟨z,its,n,r,e⟩:=hH.ok I.hok;have hl:=r.length;have Fd:its.toArray.size*k.toNat<=sizeLine:=by rw[SG,<- hl];exact hz
 have hcap:¬its.toArray.size*k.toNat>(2 ^ 63-1) / 8:=by
  have:(sizeLine:Nat)<=(2 ^ 63-1) / 8:=by decide
  omega
 have hfit:¬(!Builtin.List.listFitsIndex k)=true:=by rw[fitsIndex_both h1 h2];exact S3
 have Oo:¬UJ (its.toArray.size*k.toNat)=true:=by rw[ua Fd];exact S3
 have hnew:Wu (fun x1 x2=>x1++x2) #[] (Sv (if its.toArray.isEmpty=true then 0 else k.toNat) its.toArray)=(Sv k.toNat its).flatten.toArray:=by
  have f0:∀m:Nat,Wu (fun x1 x2=>x1++x2) #[] (Sv m its.toArray)=(Sv m its).flatten.toArray:=fun m=>by have:=foldl_rep its m [];rw[Vp]at this;exact this
  rw[f0];cases its with
  |nil=>simp
  |cons a r'=>rw[if_neg (by simp)]
 refine wpAny_binaryOp_repeat_ref (T := "list") (U := "int") (by decide) ⟨_,e,rfl⟩ (fun s'=>typeIs_int s' k t) noFill_list_mul F.fills_int_mul F.slot_int_rmul repeat_list F.slot_int_index.lookup
  (call_meets F.slot_int_rmul (typeIs_int s k t) F.entry_int_rmul (F.args_int_rmul_2 _ _) (int___rmul___int_list k t l its.toArray n)
   ⟨e,rfl,⟨_,e,rfl⟩,call_meets F.slot_list_mul ⟨_,e,rfl⟩ F.entry_list_mul (F.args_list_mul_2 _ _) (AutoListH.list___mul___list_int_3 l its.toArray n k t hfit hcap Oo) ⟨e,?_⟩⟩)
 rw[hnew];exact⟨.ref _,_,I.KH (t':=s.toks) (r.rep k.toNat) (by rw[len_rep,Nat.mul_comm];exact hz),rfl,q _ I.fresh⟩
theorem GP:OpR X (binaryOp .Add) (fun x y H Q=>rI0 (fun i j=>.int (i+j)) x y H Q\/CD x y H Q):=Kn.or GN
theorem GQ:OpR X (binaryOp .Mult) (fun x y H Q=>rI B0 (fun i j=>.int (i*j)) x y H Q\/CF x y H Q):=Kp.or GO
end
theorem Lb:OpD (fun x y H Q=>rI0 (fun i j=>.int (i+j)) x y H Q\/CD x y H Q) Dm.bw:=by
 intro H0 H x y dx dy z Q s rx ry e k;unfold Dm.bw at e;split at e
 ·cases e;cases aA rx;cases aA ry;exact .inl ⟨_,_,rfl,rfl,k _ H0 H (aD.refl s) (.int _)⟩
 ·split at e
  ·rename_i hz;cases e;obtain⟨a,us,rfl,qa,ra⟩:=bx s rx;obtain⟨b,ws,rfl,qb,rb⟩:=bx s ry;refine .inr ⟨a,b,us,ws,rfl,rfl,qa,qb,by rw[ra.length,rb.length];exact jW hz,fun p hp=>?_⟩;exact k _ _ _ (aD.gb s hp) ⟨p,rfl,hp,s.free hp,_,ao,ra.append rb⟩
  ·cases e
 ·cases e
theorem Lc:OpD (fun x y H Q=>rI B0 (fun i j=>.int (i*j)) x y H Q\/CF x y H Q) Dm.iy:=by
 intro H0 H x y dx dy z Q s rx ry e k;unfold Dm.iy at e;split at e
 ·split at e
  ·rename_i hj;cases e;cases aA rx;cases aA ry;exact .inl ⟨_,_,rfl,rfl,hj,k _ H0 H (aD.refl s) (.int _)⟩
  ·cases e
 ·split at e
  ·rename_i hz;cases e;cases aA ry;obtain⟨a,us,rfl,qa,ra⟩:=bx s rx;obtain⟨h1,h2,h3⟩:=hz;unfold Dm.BIG at h1 h2;refine .inr ⟨a,_,us,rfl,rfl,qa,by omega,by omega,by rw[ra.length];exact jW h3,fun p hp=>?_⟩;exact k _ _ _ (aD.gb s hp) ⟨p,rfl,hp,s.free hp,_,ao,ra.rep _⟩
  ·cases e
 ·cases e
theorem IU:OpD (GK false) Dm.gEq:=by
 intro H0 H x y dx dy z Q s rx ry e k;unfold Dm.gEq at e;split at e
 ·rename_i hk;rw[SQ]at hk;cases e;exact⟨dx,dy,rx.full s,ry.full s,hk.1,hk.2,k _ H0 H (aD.refl s) (.bl _)⟩
 ·cases e
theorem IV:OpD (GK true) Dm.gNe:=by
 intro H0 H x y dx dy z Q s rx ry e k;unfold Dm.gNe at e;split at e
 ·rename_i hk;rw[SQ]at hk;cases e;exact⟨dx,dy,rx.full s,ry.full s,hk.1,hk.2,k _ H0 H (aD.refl s) (.bl _)⟩
 ·cases e
theorem Oq:OpD (GL false) Dm.gIn:=by
 intro H0 H x y dx dy z Q s rx ry e k;unfold Dm.gIn at e;split at e
 ·split at e
  ·rename_i hk;rw[SQ]at hk;cases e;exact⟨dx,_,rx.full s,.inl (ry.full s),hk.1,hk.2,k _ H0 H (aD.refl s) (.bl _)⟩
  ·cases e
 ·split at e
  ·rename_i hk;rw[SQ]at hk;cases e;exact⟨dx,_,rx.full s,.inr (ry.full s),hk.1,hk.2,k _ H0 H (aD.refl s) (.bl _)⟩
  ·cases e
 ·cases e
theorem uu:OpD (GL true) Dm.cZ:=by
 intro H0 H x y dx dy z Q s rx ry e k;unfold Dm.cZ at e;split at e
 ·split at e
  ·rename_i hk;rw[SQ]at hk;cases e;exact⟨dx,_,rx.full s,.inl (ry.full s),hk.1,hk.2,k _ H0 H (aD.refl s) (.bl _)⟩
  ·cases e
 ·split at e
  ·rename_i hk;rw[SQ]at hk;cases e;exact⟨dx,_,rx.full s,.inr (ry.full s),hk.1,hk.2,k _ H0 H (aD.refl s) (.bl _)⟩
  ·cases e
 ·cases e
theorem za{H0:Hp}{xs:List V}{ds:List Dm.Dat}{i:Int}{d:Dm.Dat}(rs:az H0 xs ds)(e:Dm.atI ds i=some d):∃v,L2.atI xs i=some v/\Rep H0 v d:=by
 unfold Dm.atI at e;cases q:Dm.ixN ds.length i with
 |none=>rw[q]at e;cases e
 |some j=>rw[q]at e;obtain⟨v,hv,r⟩:=rs.get (i:=j) e;refine⟨v,?_,r⟩;unfold L2.atI;rw[rs.length];have q':L2.ixN ds.length i=some j:=q;rw[q'];exact hv
theorem Ot{K:gc}:OpD (fun x y H Q=>KC K x y H Q\/AI K x y H Q) Dm.gIx:=by
 intro H0 H x y dx dy z Q s rx ry e k;unfold Dm.gIx at e;split at e
 ·rename_i ds i;cases q:Dm.atI ds i with
  |none=>rw[q]at e;cases e
  |some d=>rw[q]at e;cases e;cases aA ry;obtain⟨a,us,rfl,qa,ra⟩:=bx s rx;obtain⟨v,hv,rv⟩:=za ra q;exact .inl ⟨a,us,i,v,rfl,rfl,.inl qa,hv,k _ H0 H (aD.refl s) rv⟩
 ·rename_i ds i;cases q:Dm.atI ds i with
  |none=>rw[q]at e;cases e
  |some d=>rw[q]at e;cases e;cases aA ry;obtain⟨a,us,rfl,qa,ra⟩:=eT s rx;obtain⟨v,hv,rv⟩:=za ra q;exact .inr ⟨a,us,i,v,rfl,rfl,.inl (.inl qa),hv,k _ H0 H (aD.refl s) rv⟩
 ·cases e
theorem Ld{K:gc}:CallD (fun xs H Q=>∃p ys,xs=[.ref p]/\(SqL K H p ys\/SqT K H p ys)/\Q (.int ys.length) H) Dm.dN:=by
 intro H0 H vs ds z Q s rs e k;unfold Dm.dN at e;split at e
 ·cases e;cases rs with
  |cons r rr=>cases rr;obtain⟨a,us,rfl,qa,ra⟩:=bx s r;exact⟨a,us,rfl,.inl (.inl qa),k _ H0 H (aD.refl s) (by rw[ra.length];exact .int _)⟩
 ·cases e;cases rs with
  |cons r rr=>cases rr;obtain⟨a,us,rfl,qa,ra⟩:=eT s r;exact⟨a,us,rfl,.inr (.inl (.inl qa)),k _ H0 H (aD.refl s) (by rw[ra.length];exact .int _)⟩
 ·cases e
theorem GR:CallD (fun xs H Q=>∃i j,xs=[.int i,.int j]/\Q (.int (if j<i then j else i)) H) Dm.lO:=by
 intro H0 H vs ds z Q s rs e k;unfold Dm.lO at e;split at e
 ·cases e;cases rs with
  |cons r rr=>
   cases rr with
   |cons r' rr=>cases rr;cases aA r;cases aA r';exact⟨_,_,rfl,k _ H0 H (aD.refl s) (.int _)⟩
 ·cases e
theorem GS:CallD (fun xs H Q=>∃i j,xs=[.int i,.int j]/\Q (.int (if j>i then j else i)) H) Dm.lP:=by
 intro H0 H vs ds z Q s rs e k;unfold Dm.lP at e;split at e
 ·cases e;cases rs with
  |cons r rr=>
   cases rr with
   |cons r' rr=>cases rr;cases aA r;cases aA r';exact⟨_,_,rfl,k _ H0 H (aD.refl s) (.int _)⟩
 ·cases e
theorem GU{K:gc}:CallD (fun xs H Q=>∃p ys,xs=[.ref p]/\(SqL K H p ys\/SqT K H p ys)/\∀l,H l=none->Q (.ref l) (upd H l (.lst ys))) Dm.qJ:=by
 intro H0 H vs ds z Q s rs e k;unfold Dm.qJ at e;split at e
 ·cases e;cases rs with
  |cons r rr=>cases rr;obtain⟨a,us,rfl,qa,ra⟩:=bx s r;exact⟨a,us,rfl,.inl (.inl qa),fun p hp=>k _ _ _ (aD.gb s hp) ⟨p,rfl,hp,s.free hp,_,ao,ra⟩⟩
 ·cases e;cases rs with
  |cons r rr=>cases rr;obtain⟨a,us,rfl,qa,ra⟩:=eT s r;exact⟨a,us,rfl,.inr (.inl (.inl qa)),fun p hp=>k _ _ _ (aD.gb s hp) ⟨p,rfl,hp,s.free hp,_,ao,ra⟩⟩
 ·cases e
theorem CG{K:gc}:CallD (fun xs H Q=>∃p ys,xs=[.ref p]/\((SqL K H p ys/\∀l,H l=none->Q (.ref l) (upd H l (.tup ys)))\/(SqT K H p ys/\Q (.ref p) H))) Dm.ng:=by
 intro H0 H vs ds z Q s rs e k;unfold Dm.ng at e;split at e
 ·cases e;cases rs with
  |cons r rr=>cases rr;obtain⟨a,us,rfl,qa,ra⟩:=bx s r;refine⟨a,us,rfl,.inl ⟨.inl qa,fun p hp=>?_⟩⟩;have g:=aD.Cs (o:=HO.tup us) s hp;exact k _ _ _ g (.tup ao (ra.mono g.s0))
 ·cases e;cases rs with
  |cons r rr=>
   cases rr;rcases r with r | ⟨a,_,w⟩
   ·cases r with
    |tup q rs=>exact⟨_,_,rfl,.inr ⟨.inl (.inl (s _ _ q)),k _ H0 H (aD.refl s) (.tup q rs)⟩⟩
   ·exact Tt w
 ·cases e
noncomputable abbrev DS(X:Cx)(st:Stmt)(f:Dm.FS):Prop:=PS X st (tDS f)
noncomputable abbrev DSs(X:Cx)(st:List Stmt)(f:Dm.FS):Prop:=PSs X st (tDS f)
noncomputable abbrev DI(X:Cx)(tg it:Expr)(f:Dm.FI):Prop:=PI X tg it (tDI f)
theorem PI.weak{X:Cx}{tg it:Expr}{t t':TI}(h:PI X tg it t)(k:∀σ H R,t' σ H R->t σ H R):PI X tg it t':=fun uW s σ H R I q=>h uW s σ H R I (k σ H R q)
section
variable{X:Cx}{a b c e:Expr}{fa fb fc f:Dm.FE}{pos:Pos}
section
variable{g:Dm.Dat->Dm.Dat->Option Dm.RV}{k:Nat}{r:List V->Hp->VK->Prop}{uX:List Expr}{x:Str}{i:Int}
theorem d_v(i:Nat)(hN:X.N[i]?=some x:=by rfl)(hv:Vis X.env.scope x:=by trivial)(hd:(x == ("__debug__" : Str))=false:=by decide)
  (PJ:(x == ("__classdict__" : Str))=false:=by decide):DE X (.Name x pos) (Dm.eV i):=PE.weak (bL hN hv hd PJ) fun _ _ _=>N3
theorem d_i{j}:DE X (.Constant (.int i) j pos) (Dm.eC (.int i)):=PE.weak mT fun _ _ _=>jV fun _=>.int i
theorem d_b{v:Bool}{j}:DE X (.Constant (.bool v) j pos) (Dm.eC (.bl v)):=PE.weak NJ fun _ _ _=>jV fun _=>.bl v
theorem d_n{j}:DE X (.Constant .none j pos) (Dm.eC .non):=PE.weak J8 fun _ _ _=>jV fun _=>.non
theorem d_s{s:List Nat}{j}(hx:x=⟨s.toArray⟩:=by rfl):DE X (.Constant (.str x) j pos) (Dm.eC (.str s)):=by subst hx;exact PE.weak J9 fun _ _ _=>jV fun _=>.str s
theorem d_g{t:Tok}(hg:Gl X x)(hm:X.mg x=some (.int i t))(hd:(x == ("__debug__" : Str))=false:=by decide):DE X (.Name x pos) (Dm.eC (.int i)):=
 PE.weak (Gg (v:=.int i) hg hm ⟨t,rfl⟩ hd) fun _ _ _=>jV fun _=>.int i
theorem xD{op:Operator}{r:R2}(o:OpR X (binaryOp op) r)(od:OpD r g)(ha:DE X a fa)(hb:DE X b fb):DE X (.BinOp a op b pos) (Dm.e2 g fa fb):=
 PE.weak (NP o ha hb) fun _ _ _=>xA od
theorem aZ(ha:DE X a fa)(hb:DE X b fb):DE X (.BinOp a .Add b pos) (Dm.e2 Dm.bw fa fb):=xD GP Lb ha hb
theorem lQ(ha:DE X a fa)(hb:DE X b fb):DE X (.BinOp a .Sub b pos) (Dm.e2 Dm.ir fa fb):=xD Ko K8 ha hb
theorem g_(ha:DE X a fa)(hb:DE X b fb):DE X (.BinOp a .Mult b pos) (Dm.e2 Dm.iy fa fb):=xD GQ Lc ha hb
theorem IW(ha:DE X a fa)(hb:DE X b fb):DE X (.BinOp a .FloorDiv b pos) (Dm.e2 Dm.xx fa fb):=xD CC La ha hb
theorem fM(ha:DE X a fa)(hb:DE X b fb):DE X (.BinOp a .Mod b pos) (Dm.e2 Dm.f9 fa fb):=xD Kq K9 ha hb
theorem j3(ha:DE X a fa)(hb:DE X b fb):DE X (.BinOp a .Pow b pos) (Dm.e2 Dm.iz fa fb):=xD Kr K_ ha hb
theorem ny{op:CmpOp}{r:R2}(o:OpR X (compareOp op) r)(od:OpD r g)(ha:DE X a fa)(hb:DE X b fb)(hm:behindInMarks op b=false):DE X (.Compare a [op] [b] pos) (Dm.e2 g fa fb):=
 PE.weak (Gk o ha hb hm) fun _ _ _=>xA od
theorem nB{op:CmpOp}{r:R2}(o:OpR X (compareOp op) r)(od:OpD r g)(ha:DE X a fa)(hb:DE X b fb)(hm:behindInMarks op b=false):DT X (.Compare a [op] [b] pos) (Dm.tV (Dm.e2 g fa fb)):=
 PT.weak (Gm o ha hb hm) fun σ H Q h=>xA od (r8 h)
theorem AU(hr:bq k X.A)(ha:DE X a fa)(hb:DE X b fb):DE X (.Compare a [.Eq] [b] pos) (Dm.e2 Dm.gEq fa fb):=ny (Cz hr) IU ha hb (dJ _)
theorem Rb(hr:bq k X.A)(ha:DE X a fa)(hb:DE X b fb):DE X (.Compare a [.NotEq] [b] pos) (Dm.e2 Dm.gNe fa fb):=ny (CA hr) IV ha hb (dJ _)
theorem Le(ha:DE X a fa)(hb:DE X b fb):DE X (.Compare a [.Lt] [b] pos) (Dm.e2 Dm.gLt fa fb):=ny B3 CB ha hb (dJ _)
theorem Rc(ha:DE X a fa)(hb:DE X b fb):DE X (.Compare a [.LtE] [b] pos) (Dm.e2 Dm.gLe fa fb):=ny yM y_ ha hb (dJ _)
theorem Cg(hr:bq k X.A)(ha:DE X a fa)(hb:DE X b fb)(hm:behindInMarks .In b=false:=by rfl):DE X (.Compare a [.In] [b] pos) (Dm.e2 Dm.gIn fa fb):=ny (K7 hr) Oq ha hb hm
theorem IX(hr:bq k X.A)(ha:DE X a fa)(hb:DE X b fb)(hm:behindInMarks .NotIn b=false:=by rfl):DE X (.Compare a [.NotIn] [b] pos) (Dm.e2 Dm.cZ fa fb):=ny (qL hr) uu ha hb hm
theorem uv(hr:bq k X.A)(ha:DE X a fa)(hb:DE X b fb):DT X (.Compare a [.Eq] [b] pos) (Dm.tV (Dm.e2 Dm.gEq fa fb)):=nB (Cz hr) IU ha hb (dJ _)
theorem j4(hr:bq k X.A)(ha:DE X a fa)(hb:DE X b fb):DT X (.Compare a [.NotEq] [b] pos) (Dm.tV (Dm.e2 Dm.gNe fa fb)):=nB (CA hr) IV ha hb (dJ _)
theorem Lf(ha:DE X a fa)(hb:DE X b fb):DT X (.Compare a [.Lt] [b] pos) (Dm.tV (Dm.e2 Dm.gLt fa fb)):=nB B3 CB ha hb (dJ _)
theorem GV(ha:DE X a fa)(hb:DE X b fb):DT X (.Compare a [.Gt] [b] pos) (Dm.tV (Dm.e2 Dm.gGt fa fb)):=nB NT Ol ha hb (dJ _)
theorem Lg(ha:DE X a fa)(hb:DE X b fb):DT X (.Compare a [.GtE] [b] pos) (Dm.tV (Dm.e2 Dm.gGe fa fb)):=nB NU Om ha hb (dJ _)
theorem Ou(hr:bq k X.A)(ha:DE X a fa)(hb:DE X b fb)(hm:behindInMarks .NotIn b=false:=by rfl):DT X (.Compare a [.NotIn] [b] pos) (Dm.tV (Dm.e2 Dm.cZ fa fb)):=nB (qL hr) uu ha hb hm
theorem aO(ha:DE X a fa)(hb:DE X b fb)(hs:fh b:=by intro _ _;rfl):DE X (.Subscript a b pos) (Dm.e2 Dm.gIx fa fb):=PE.weak (qG (yR.or m7) ha hb hs) fun _ _ _=>xA Ot
theorem af:DA X [] []:=PA.weak dM fun _ _ _=>N4
theorem aa{es:List Expr}{fs:List Dm.FE}(h:DE X e f)(r:DA X es fs)(hs:starEach (e::es) X.env=(false,eval e X.env)::starEach es X.env:=by rfl):DA X (e::es) (f::fs):=PA.weak (b4 h r hs) fun _ _ _=>KR
theorem lR{es:List Expr}{fs:List Dm.FE}{x1}(h:DA X es fs):DE X (.Tuple es x1 pos) (Dm.iw fs):=PE.weak (w_ h) fun _ _ _=>N5
theorem fN{es:List Expr}{fs:List Dm.FE}(h:DA X es fs):DE X (.List es pos) (Dm.f7 fs):=PE.weak (xg h) fun _ _ _=>N6
theorem AV{es:List Expr}{fs:List Dm.FE}{g:List Dm.Dat->Option Dm.RV}{id:String}{p:Pos}(hc:cg X (.builtin id) r)(cd:CallD r g)(hv:bootBuiltins x=some (.builtin id))(hg:Gl X x)(hm:X.mg x=none)(ha:DA X (e::es) fs)
  (hn:x ≠ "__name__" := by decide) (RS:(x == ("__debug__" : Str))=false:=by decide) (he:starEach (e::es) X.env=(false,eval e X.env)::starEach es X.env:=by rfl) (HL:(backTo pos (starEach es X.env)).any (·.1)=false:=by rfl) :
  DE X (.Call (.Name x p) (e::es) [] pos) (Dm.eB g fs):=PE.weak (jO hc hg hm hv ha hn RS he HL) fun _ _ _=>KS cd
theorem CH{es:List Expr}{fs:List Dm.FE}{g:List Dm.Dat->Option Dm.RV}{T:String}{p:Pos}(hc:cg X (.type T) r)(cd:CallD r g)(hv:bootBuiltins x=some (.type T))(hg:Gl X x)(hm:X.mg x=none)(ha:DA X (e::es) fs)
  (hn:x ≠ "__name__" := by decide) (RS:(x == ("__debug__" : Str))=false:=by decide) (he:starEach (e::es) X.env=(false,eval e X.env)::starEach es X.env:=by rfl) (HL:(backTo pos (starEach es X.env)).any (·.1)=false:=by rfl) :
  DE X (.Call (.Name x p) (e::es) [] pos) (Dm.eB g fs):=PE.weak (kJ hc hg hm hv ha hn RS he HL) fun _ _ _=>KS cd
variable{es:List Expr}{fs:List Dm.FE}{p:Pos}
theorem dO(hg:Gl X "len")(hm:X.mg "len" = none)(ha:DA X [e] fs)(he:starEach [e] X.env=[(false,eval e X.env)]:=by rfl)(HL:(backTo pos (starEach [] X.env)).any (·.1)=false:=by rfl):DE X (.Call (.Name "len" p) [e] [] pos) (Dm.eB Dm.dN fs):=AV rU Ld PySem.boot_len hg hm ha (he:=he) (HL:=HL)
theorem sj(hc:X.calm=true)(hg:Gl X "min")(hm:X.mg "min" = none)(ha:DA X [a,b] fs)(he:starEach [a,b] X.env=(false,eval a X.env)::starEach [b] X.env:=by rfl)(HL:(backTo pos (starEach [b] X.env)).any (·.1)=false:=by rfl):DE X (.Call (.Name "min" p) [a,b] [] pos) (Dm.eB Dm.lO fs):=AV (AB hc) GR (by rfl) hg hm ha (he:=he) (HL:=HL)
theorem sr(hc:X.calm=true)(hg:Gl X "max")(hm:X.mg "max" = none)(ha:DA X [a,b] fs)(he:starEach [a,b] X.env=(false,eval a X.env)::starEach [b] X.env:=by rfl)(HL:(backTo pos (starEach [b] X.env)).any (·.1)=false:=by rfl):DE X (.Call (.Name "max" p) [a,b] [] pos) (Dm.eB Dm.lP fs):=AV (AA hc) GS (by rfl) hg hm ha (he:=he) (HL:=HL)
theorem CI(hg:Gl X "list")(hm:X.mg "list" = none)(ha:DA X [e] fs)(he:starEach [e] X.env=[(false,eval e X.env)]:=by rfl)(HL:(backTo pos (starEach [] X.env)).any (·.1)=false:=by rfl):DE X (.Call (.Name "list" p) [e] [] pos) (Dm.eB Dm.qJ fs):=CH rV GU (by rfl) hg hm ha (he:=he) (HL:=HL)
theorem GW(hg:Gl X "tuple")(hm:X.mg "tuple" = none)(ha:DA X [e] fs)(he:starEach [e] X.env=[(false,eval e X.env)]:=by rfl)(HL:(backTo pos (starEach [] X.env)).any (·.1)=false:=by rfl):DE X (.Call (.Name "tuple" p) [e] [] pos) (Dm.eB Dm.ng fs):=CH qp CG (by rfl) hg hm ha (he:=he) (HL:=HL)
theorem aB{F:Addr}{fd:FuncData}{ps:List Str}{g:List Dm.Dat->Option Dm.RV}(G:aP X.prog X.w X.K X.mg X.base CX0 k F fd ps (spD g))(hr:bq k X.A)(hg:Gl X x)(hm:X.mg x=some (.ref F))(hk:TY X.K (.ref F)=true)(hb:Binds X.K fd ps [])
  (ha:DA X (e::es) fs) (RS:(x == ("__debug__" : Str))=false:=by decide) (he:starEach (e::es) X.env=(false,eval e X.env)::starEach es X.env:=by rfl) (HL:(backTo pos (starEach es X.env)).any (·.1)=false:=by rfl) :
  DE X (.Call (.Name x p) (e::es) [] pos) (Dm.eF g fs):=PE.weak (dY G hr hg hm hk hb .nil (lG (X:=X)) ha RS he HL) fun _ _ _=>KU
theorem Rf{t:Dm.FT}{q:Expr}(hq:DT X q t)(ha:DE X a fa)(hb:DE X b fb):DE X (.IfExp q a b pos) (Dm.eIf t fa fb):=PE.weak (BQ hq ha hb) fun _ _ _=>Q4
theorem j5{op}(h:DE X a fa):DE X (.BoolOp op [a] pos) fa:=Kc h
theorem eU(ha:DE X a fa)(hb:DE X (.BoolOp .And (b::uX) pos) fb):DE X (.BoolOp .And (a::b::uX) pos) (Dm.eO fa fb):=PE.weak (Kd ha hb) fun _ _ _=>N7
theorem IY(ha:DE X a fa):DE X (.UnaryOp .Not a pos) (Dm.xu fa):=PE.weak (Ke ha) fun _ _ _=>N8
noncomputable abbrev DW(X:Cx)(e:Expr)(f:Dm.FT):Prop:=PW X e (tDT f)
theorem PW.weak{t t':TT}(h:PW X e t)(k:∀σ H Q,t' σ H Q->t σ H Q):PW X e t':=fun whole uW s σ H Q I q=>h whole uW s σ H Q I (k σ H Q q)
variable{ta tb:Dm.FT}
theorem Lh(h:DT X a ta):DW X (.BoolOp .And [a] pos) ta:=pw_and1 h
theorem gm(h:DT X a ta):DW X (.BoolOp .Or [a] pos) ta:=pw_or1 h
theorem w_and(ha:DT X a ta)(hb:DW X (.BoolOp .And (b::uX) pos) tb):DW X (.BoolOp .And (a::b::uX) pos) (Dm.mU ta tb):=PW.weak (pw_and ha hb) fun _ _ _=>KY
theorem w_or(ha:DT X a ta)(hb:DW X (.BoolOp .Or (b::uX) pos) tb):DW X (.BoolOp .Or (a::b::uX) pos) (Dm.tOr ta tb):=PW.weak (pw_or ha hb) fun _ _ _=>N9
theorem t_w(h:DW X a ta):DT X a ta:=h.pt
theorem bS(h:DT X a ta):DT X (.UnaryOp .Not a pos) (Dm.b8 ta):=PT.weak (Ka h) fun _ _ _=>KW
theorem bM(h:DE X e f)(he:∀whole,isTrue e X.env whole=(do let v <- whole;standAt e.pos;holding [v] (truthy v)):=by intro _;rfl):DT X e (Dm.tV f):=PT.weak (J_ h he) fun _ _ _=>r8
variable{tg:Expr}
theorem AW(hg:Gl X "range")(hm:X.mg "range" = none)(ha:DA X [a] [fa])(hs:starEach [a] X.env=[(false,eval a X.env)]:=by rfl):DI X tg (.Call (.Name "range" p) [a] [] pos) (Dm.iR1 fa):=
 PI.weak (Ax hg hm ha hs) fun _ _ _=>Og
theorem Rg(hg:Gl X "range")(hm:X.mg "range" = none)(ha:DA X [a,b] [fa,fb])(hs:starEach [a,b] X.env=[(false,eval a X.env),(false,eval b X.env)]:=by rfl)(hs2:starEach [b] X.env=[(false,eval b X.env)]:=by rfl):DI X tg (.Call (.Name "range" p) [a,b] [] pos) (Dm.iR2 fa fb):=
 PI.weak (Ay hg hm ha hs hs2) fun _ _ _=>Oh
end
end
section
variable{X:Cx}{st:Stmt}{uX:List Stmt}{fs gs:Dm.FS}{e a b c:Expr}{f fa fb:Dm.FE}{pos:Pos}
section
variable{is:List Nat}{x:Str}{body:List Stmt}{es:List Expr}{t:Dm.FT}
theorem bz:DSs X [] Dm.sNx:=PSs.weak jI fun _ _ _=>Q5
theorem aj(h1:DS X st fs)(h2:DSs X uX gs):DSs X (st::uX) (Dm.aC fs gs):=PSs.weak (aY h1 h2) fun _ _ _=>Oa
theorem au(h1:DS X st fs):DSs X [st] fs:=cQ h1
theorem s_a(i:Nat){pos':Pos}(hN:X.N.Nodup)(he:DE X e f)(hi:X.N[i]?=some x:=by rfl)(hx:Loc X.env.scope x:=by trivial)(hs:swapsWith e (some (.Name x pos')) pos.line X.env=pure false:=by rfl)
  (hf:X.fn x=true\/X.env.scope.names.lookup x=some .local:=by trivial):DS X (.Assign [.Name x pos'] e pos) (Dm.sA i f):=PS.weak (kH hN hi hx he hs hf) fun _ _ _=>IS
theorem nC:PGs X [] (gh []):=Gi
theorem b5(i:Nat){px:Pos}(hN:X.N.Nodup)(h2:PGs X es (gh is))(hi:X.N[i]?=some x:=by rfl)(hx:Loc X.env.scope x:=by trivial)
  (hf:X.fn x=true\/X.env.scope.names.lookup x=some .local:=by trivial) (hs:(assignEach (.Name x px::es) X.env).map (·.2)=assign (.Name x px) X.env::(assignEach es X.env).map (·.2):=by rfl):PGs X (.Name x px::es) (gh (i::is)):=BS (mD hN hi hx hf) h2 hs
theorem s_e(he:DE X e f)(hs:swapsWith e none pos.line X.env=pure false:=by rfl):DS X (.Expr e pos) (Dm.sE f):=PS.weak (dX he hs) fun _ _ _=>KZ
theorem s_r(he:DE X e f):DS X (.Return (some e) pos) (Dm.sR f):=PS.weak (mV he) fun _ _ _=>Ob
theorem cB{x y:List Stmt}(ht:DT X c t)(ha:DSs X x fs)(hb:DSs X y gs):DS X (.If c x y pos) (Dm.sIf t fs gs):=PS.weak (tX ht ha hb) fun _ _ _=>Oc
theorem mH:DS X st (fun _=>none):=PS.weak BR fun _ _ _ ⟨_,_,_,_,z,_⟩=>by cases z
theorem zb(i:Nat){px ap cp:Pos}(he:DE X e f)(hi:X.N[i]?=some x:=by rfl)(hv:Vis X.env.scope x:=by trivial)(hd:(x == ("__debug__" : Str))=false:=by decide)
  (PJ:(x == ("__classdict__" : Str))=false:=by decide) (Mg:attributeBase (.Name x px) "append" X.env (eval (.Name x px) X.env)=eval (.Name x px) X.env:=by rfl)
  (hfew:((backTo cp (starEach [e] X.env)).all (fun x=>!x.1)&&(backToKw cp (keywordEach [] X.env)).all (fun x=>x.1.isSome)
   && decide ([e].length+([]:List Keyword).length+(if ([]:List Keyword).isEmpty then 0 else 1)<30))=true:=by rfl)
  (Ih:(ap.endLine == cp.line)=true:=by rfl) (hs:starEach [e] X.env=(false,eval e X.env)::starEach [] X.env:=by rfl) (Py:(backTo cp (starEach [] X.env)).any (·.1)=false:=by rfl)
  (hsw:swapsWith (.Call (.Attribute (.Name x px) "append" ap) [e] [] cp) none pos.line X.env=pure false:=by rfl) :
  DS X (.Expr (.Call (.Attribute (.Name x px) "append" ap) [e] [] cp) pos) (Dm.rX i f):=
 PS.weak (dX (t_ T5 U9 Va gO (bL hi hv hd PJ) (aa he af hs) Mg hfew Ih hs Py) hsw) fun _ _ _=>Od
theorem IZ(i:Nat){j:Expr}{fj:Dm.FE}{px sp:Pos}(hj:DE X j fj)(he:DE X e f)(hi:X.N[i]?=some x:=by rfl)(hv:Vis X.env.scope x:=by trivial)(hd:(x == ("__debug__" : Str))=false:=by decide)
  (PJ:(x == ("__classdict__" : Str))=false:=by decide) (ha:∀ v,assign (.Subscript (.Name x px) j sp) X.env v=(do
   let ov <- holding [v] (eval (.Name x px) X.env)
   let iv <- holding [v,ov] (eval j X.env)
   standAt sp
   holding [v,ov,iv] (setItem ov iv v)
   release [v,ov,iv] []):=by intro _;rfl)
  (hs:swapsWithSole [.Subscript (.Name x px) j sp] e pos.line X.env=pure false:=by rfl) (hw:swappedStores [.Subscript (.Name x px) j sp] e X.env=pure none:=by rfl) (h1:(assignEach [.Subscript (.Name x px) j sp] X.env).map (·.2)=[assign (.Subscript (.Name x px) j sp) X.env]:=by rfl) :
  DS X (.Assign [.Subscript (.Name x px) j sp] e pos) (Dm.xw i fj f):=PS.weak (Kl he (Kh (bL hi hv hd PJ) hj set_list ha) hs hw h1) fun _ _ _=>Oe
theorem Li(n:Nat)(hp:PassesOwn (model X.prog X.w) X.A X.env X.xe)(ht:DT X c t)(hb:DSs X body fs):DS X (.While c body [] pos) (Dm.whD t fs n):=PS.weak (BW hp ht hb) fun _ _ _=>GG
structure TG'(X:Cx)(tg:Expr)(is:List Nat)(bd:Dm.FB):Prop where
 ex:∃g,PG X tg g/\BD is g bd
theorem g_n(i:Nat){px:Pos}(hN:X.N.Nodup)(hi:X.N[i]?=some x:=by rfl)(hx:Loc X.env.scope x:=by trivial)(hf:X.fn x=true\/X.env.scope.names.lookup x=some .local:=by trivial) :
  TG' X (.Name x px) [i] (Dm.bN i):=⟨⟨_,mD hN hi hx hf,yX i⟩⟩
theorem g_t{k:Nat}{tpos:Pos}(hc:X.calm=true)(hg:PGs X es (gh is))(hn:(assignEach es X.env).length=is.length:=by rfl)(hst:(assignEach es X.env).findIdx? (·.1)=none:=by rfl):TG' X (.Tuple es k tpos) is (Dm.bT is):=
 ⟨⟨_,BU hc hg hn hst,Cv is rfl⟩⟩
theorem gp{tg it:Expr}{fi:Dm.FI}{bd:Dm.FB}(hp:PassesOwn (model X.prog X.w) X.A X.env X.xe)(hc:X.calm=true)(hi:DI X tg it fi)(hg:TG' X tg is bd)(hb:DSs X body fs)
  (hs:∀x,foldedSetIterable it X.env x=pure x:=by intro _;rfl):DS X (.For tg it body [] pos) (Dm.gX fi bd fs):=by
 obtain⟨g,h1,h2⟩:=hg.ex;exact PS.weak (rR hp hc hi h1 hb hs) fun _ _ _=>Of h2
end
end
noncomputable def tyName:Dm.Dat->String
 |.non => "NoneType"
 |.bl _ => "bool"
 |.int _ => "int"
 |.str _ => "str"
 |.tup _ => "tuple"
 |.lst _ => "list"
 |.dct _ _ => "dict"
 |.exc _ => "dict"
 |.fn _ => "dict"
def AX(T:String)(p:Dm.Dat->Bool):Prop:=∀(K:gc) (d:Dm.Dat),V8 K (.type (tyName d)) (.type T)=some (p d)
theorem zc:AX "int" Dm.isI:=fun K d=>by cases d<;>rfl
theorem uw:AX "bool" Dm.isB:=fun K d=>by cases d<;>rfl
theorem nD:AX "list" Dm.isL:=fun K d=>by cases d<;>rfl
theorem kit_tuple:AX "tuple" Dm.isT:=fun K d=>by cases d<;>rfl
theorem CJ{K:gc}{H:Hp}{v:V}{d:Dm.Dat}(r:Rep H v d)(nx:∀C,d≠.exc C/\d≠.fn C):jM K H v (.type (tyName d)):=by
 cases r with
 |non=>exact .non
 |bl b=>exact .bl b
 |int i=>exact .int i
 |str s=>exact .str _
 |tup q _=>exact .tup q
 |lst q _=>
  rcases q with q | ⟨o,q⟩
  ·exact .lst q
  ·exact .frz q
 |dct q _ _=>exact .dK q
 |exc _=>exact absurd rfl (nx _).1
 |fn _=>exact absurd rfl (nx _).2
def Ov(K:gc)(T:String):List V->Hp->VK->Prop:=fun xs H Q=>∃x t b,xs=[x,.ty T]/\jM K H x t/\V8 K t (.type T)=some b/\Q (.bl b) H
section
variable{X:Cx}{e:Expr}{f:Dm.FE}{p p2 pos:Pos}
theorem CK{T:String}:cg X (.builtin "isinstance") (Ov X.K T):=by intro uW s σ H xs us Q I r h;obtain⟨x,t,b,rfl,ty,e,q⟩:=h;obtain⟨u,u2,rfl,rx,ry⟩:=vals2 r;cases ry;exact AF I rx ty e fun tk=>⟨.bl b,H,I.tok tk,rfl,q⟩
theorem Ow{K:gc}{T:String}{p:Dm.Dat->Bool}(kp:AX T p){σ:L2.St}{H:Hp}{Q:VK}(h:tD (Dm.e1 (Dm.jT p) f) σ H Q):tCB (Ov K T) (eG (tD f) (eG (tC (.ty T)) kI)) σ H Q:=by
 obtain⟨H0,ρ,x,ρ',st,e,k⟩:=h;unfold Dm.e1 at e;split at e
 ·cases e
 rename_i x1 ρ1 e1;split at e
 ·cases e
 rename_i dx p1;have nx:∀C,dx≠.exc C/\dx≠.fn C:=fun C=>⟨fun z=>(by subst z;cases e),fun z=>(by subst z;cases e)⟩;have ev:Dm.jT p dx=Dm.vB (p dx):=by cases dx<;>first | rfl | exact absurd rfl (nx _).1 | exact absurd rfl (nx _).2
 rw[ev]at e;dsimp only at e;cases e;refine⟨H0,ρ,x1,_,st,e1,fun v H1 Hb t1 r1=>?_⟩;exact⟨v,_,_,rfl,CJ ((r1.look t1.st p1).full t1.st.same) nx,kp K dx,k _ H1 Hb t1 (Rep.bl _)⟩
theorem gu{T:String}{tn:Str}{p':Dm.Dat->Bool}(kp:AX T p')(hvT:bootBuiltins tn=some (.type T))(hgT:Gl X tn)(hmT:X.mg tn=none)(hg:Gl X "isinstance")(hm:X.mg "isinstance" = none)(h:DE X e f)
  (hn:tn ≠ "__name__" := by decide) (RS:(tn == ("__debug__" : Str))=false:=by decide)
  (he:starEach [e,.Name tn p2] X.env=(false,eval e X.env)::starEach [.Name tn p2] X.env:=by rfl) (HL:(backTo pos (starEach [.Name tn p2] X.env)).any (·.1)=false:=by rfl) (he2:starEach [.Name tn p2] X.env=(false,eval (.Name tn p2) X.env)::starEach [] X.env:=by rfl) :
  DE X (.Call (.Name "isinstance" p) [e,.Name tn p2] [] pos) (Dm.e1 (Dm.jT p') f):=
 PE.weak (jO CK hg hm PyProof.Rows.boot_isinstance (b4 h (b4 (Gh (v:=.ty T) hgT hmT hvT rfl hn RS) dM he2) he) (he:=he) (HL:=HL)) fun _ _ _=>Ow kp
theorem all_range(bs:List Bool):(SH bs.length).all (fun i=>bs.getD i true)=bs.all id:=by
 rw[V3,TM,TM];constructor
 ·intro h b hb;obtain⟨i,hi,rfl⟩:=List.mem_iff_getElem.mp hb;have:=h i (Tp.mpr hi);rw[T8,SK hi]at this;exact this
 ·intro h i hi;have hi:=Tp.mp hi;rw[T8,SK hi];exact h _ (UY hi)
theorem AY(hc:X.calm=true):cg X (.builtin "all") (fun xs H Q=>∃(a:Addr) (bs:List Bool),xs=[.ref a]/\Rd H a (.lst (bs.map V.bl))/\Q (.bl (bs.all id)) H):=by
 intro uW s σ H xs us Q I r h;obtain⟨a,bs,rfl,hq,q⟩:=h;obtain⟨u,rfl,rx⟩:=vals1 r;cases rx;obtain⟨z,its,n,rv,e⟩:=hq.ok I.hok;have hl:s.heap.IsList a its.toArray:=⟨_,e,rfl,_,rfl⟩
 have Fd:=rv.length;rw[Ss]at Fd;have hax:a≠s.heap.objs.size:=S7 (SI e);refine PySem.call_all_walk (wpAny_pyIter_list hl ⟨s.heap.objs.size,_,_,_,_,_,fun i=>bs.getD i true,rfl,Walks.list (A:=X.A.in1) (I.ok.hd hc) s.heap.objs.size a hax its.toArray,⟨⟨_,S2 _ rfl,rfl,rfl⟩,hl.push _⟩,?_,fun h' tk hk=>?_⟩)
 ·intro i v s' Q' E' hv hQ';have hv':its[i]?=some v:=by simpa using hv
  have hi:i<bs.length:=by rw[Fd];exact(Su.mp hv').1
  have hb:(bs.map V.bl)[i]?=some (V.bl bs[i]):=by rw[SS,SK hi];rfl
  obtain⟨u,hu,ru⟩:=rv.get hb;rw[hv']at hu;cases hu;cases ru;refine wpAny_truthy_bool ?_;have e2:bs.getD i true=bs[i]:=by rw[T8,SK hi];rfl
  rw[<- e2];exact hQ'
 ·have e1:its.toArray.size=bs.length:=by rw[SG,Fd]
  rw[e1,all_range];refine⟨.bl _,H,I.kept (t':=tk) fun b o eb=>hk b o ?_ (Sz _ eb),rfl,q⟩;intro hm;have:b=s.heap.objs.size:=by simpa using hm
  exact absurd (SI eb) (by rw[this];exact TU _)
end
section
variable{X:Cx}{a b c e:Expr}{f fa fb fc:Dm.FE}{p p2 pos:Pos}
section
variable{g h:Dm.Dat->Dm.Dat->Option Dm.RV}{σ:L2.St}{Q:VK}{H:Hp}
theorem GX{r r':R2}(o1:OpD r g)(o2:OpD r' h)(hh:tD (Dm.f_ g h fa fb fc) σ H Q):B4 r r' (tD fa) (tD fb) (tD fc) σ H Q:=by
 obtain⟨H0,ρ,x,ρ',st,e,k⟩:=hh;unfold Dm.f_ at e;split at e
 ·cases e
 rename_i x1 ρ1 e1;split at e
 ·cases e
 rename_i y1 ρ2 e2;split at e
 ·cases e
 rename_i dx p1;split at e
 ·cases e
 rename_i dy p2;refine⟨H0,ρ,x1,ρ1,st,e1,fun v H1 Hb t1 r1=>⟨H1,ρ1,y1,ρ2,t1.st,e2,fun u H2 Hc t2 r2=>?_⟩⟩;split at e
 ·rename_i gz;refine o1 H2 Hc v u dx dy _ _ t2.st.same ((r1.mono t2).look t2.st p1) (r2.look t2.st p2) gz fun w H3 Hd g3 r3=>?_;refine⟨true,Rep.rZ r3,?_⟩;rw[if_pos rfl];have t3:=t2.trans (.grow t2.st g3);have r2':=r2.mono (.grow t2.st g3);split at e
  ·cases e
  rename_i z ρ3 e3;split at e
  ·cases e
  rename_i dy' p3;split at e
  ·cases e
  rename_i dz p4;split at e
  ·cases e
  rename_i w2 hz;cases e;refine⟨H3,ρ2,z,_,t3.st,e3,fun w' H4 He t4 r4=>?_⟩;refine o2 H4 He u w' dy' dz w2 Q t4.st.same ((r2'.mono t4).look t4.st p3) (r4.look t4.st p4) hz fun w5 H5 Hf g5 r5=>?_;exact k w5 H5 Hf (t1.trans (t3.trans (t4.trans (.grow t4.st g5)))) ((r5.toV t4.st).early fun a n=>(t1.trans (t3.trans t4)).stp.gone n)
 ·rename_i gz;cases e;refine o1 H2 Hc v u dx dy _ _ t2.st.same ((r1.mono t2).look t2.st p1) (r2.look t2.st p2) gz fun w H3 Hd g3 r3=>?_;refine⟨false,Rep.rZ r3,?_⟩;rw[if_neg S3];exact k _ H3 Hd (t1.trans (t2.trans (.grow t2.st g3))) (Rep.bl false)
 ·cases e
theorem zd{op op':CmpOp}{r r':R2}(o1:OpR X (compareOp op) r)(q1:OpD r g)(o2:OpR X (compareOp op') r')(q2:OpD r' h)(ha:DE X a fa)(hb:DE X b fb)(hc:DE X c fc)
  (hm:lastMarks [op,op'] [b,c]=false:=by with_unfolding_all rfl):DE X (.Compare a [op,op'] [b,c] pos) (Dm.f_ g h fa fb fc):=PE.weak (B5 o1 o2 ha hb hc hm) fun _ _ _=>GX q1 q2
theorem kR(n d:Nat)(o:Option Int)(hd:d<=n):HT.sIx n d o=Dm.sIx n d o:=by
 cases o with
 |none=>rfl
 |some v=>
  unfold HT.sIx Dm.sIx
  first
   |rfl
   |(dsimp only;split<;>omega)
theorem qM{H0:Hp}{xs:List V}{ds:List Dm.Dat}(rs:az H0 xs ds)(lo hi:Option Int):az H0 (m6 xs lo hi) (Dm.cut ds lo hi):=by unfold m6 Dm.cut;rw[rs.length,kR _ _ _ (S6 _),kR _ _ _ (SA _)];exact(rs.drop _).take _
theorem mJ{fo:Option Dm.FE}{H0 H:Hp}{ρ ρ':Dm.Env}{o:Option Int}{Q:Option Int->Hp->Prop}(st:av H0 H σ ρ)(e:Dm.part fo ρ=some (o,ρ'))(k:∀H0' H',ESt σ ρ H0 H ρ' H0' H'->Q o H') :
  (match fo with | none=>rS | some f=>B9 (tD f)) σ H Q:=by
 cases fo with
 |none=>cases e;exact k H0 H (.refl st)
 |some f=>
  unfold Dm.part at e;dsimp only at e;split at e
  ·rename_i i ρ1 e1;cases e;exact⟨H0,ρ,_,_,st,e1,fun v H1 Hb t1 r1=>⟨i,Rep.isInt r1,k H1 Hb t1⟩⟩
  ·cases e
noncomputable abbrev tOf(fo:Option Dm.FE):TO:=match fo with | none=>rS | some f=>B9 (tD f)
theorem Rh{K:gc}{lo hi:Option Dm.FE}(h:tD (Dm.eSl f lo hi) σ H Q):tSl (NW K) (tD f) (tOf lo) (tOf hi) σ H Q:=by
 obtain⟨H0,ρ,x,ρ',st,e,k⟩:=h;unfold Dm.eSl at e;split at e
 ·cases e
 rename_i x1 ρ1 e1;split at e
 ·cases e
 rename_i l ρ2 e2;split at e
 ·cases e
 rename_i hh ρ3 e3;split at e
 ·rename_i ds p1;cases e;refine⟨H0,ρ,x1,ρ1,st,e1,fun v H1 Hb t1 r1=>?_⟩;refine mJ t1.st e2 fun H2 Hc t2=>?_;refine mJ t2.st e3 fun H3 Hd t3=>?_;have tt:=t1.trans (t2.trans t3);obtain⟨a,xs,rfl,qa,ra⟩:=bx t3.st.same ((r1.mono (t2.trans t3)).look t3.st p1);refine⟨a,xs,rfl,.inl qa,fun q hq=>?_⟩;have g:=aD.gb (o:=HO.lst (m6 xs l hh)) t3.st.same hq;refine k _ _ _ (tt.trans (.grow t3.st g)) ⟨q,rfl,tt.stp.gone hq,t3.st.bh hq,t3.st.same.free hq,_,ao,qM ra l hh⟩
 ·cases e
theorem Ri{lo hi:Option Expr}{flo fhi:Option Dm.FE}(h:DE X e f)(hl:PO X lo (tOf flo))(hh:PO X hi (tOf fhi)):DE X (.Subscript e (.Slice lo hi none p2) pos) (Dm.eSl f flo fhi):=PE.weak (t8 Gu h hl hh) fun _ _ _=>Rh
theorem o_n:PO X none (tOf none):=Gr
theorem o_s(h:DE X e f):PO X (some e) (tOf (some f)):=Gs h
end
end
section
variable{X:Cx}{nm:List Str}{PK tg iter:Expr}{PB:List Expr}{scope:Scope}{pos:Pos}{own:List Str}{fi:Dm.FI}{bd:Dm.FB}{is:List Nat}{t:Dm.FT}{f:Dm.FE}
noncomputable abbrev DTs(X:Cx)(PB:List Expr)(t:Dm.FT):Prop:=PTs X PB (tDT t)
theorem ee:DTs X [] Dm.dZ:=fun uW s σ H Q I h=>by obtain⟨H0,ρ,b,ρ',st,e,k⟩:=h;cases e;exact yY uW s σ H Q I (k H0 H (.refl st))
theorem kT{c:Expr}(h:DT X c t):DTs X [c] t:=GJ h
structure TGc(X:Cx)(nm:List Str)(scope:Scope)(own:List Str)(tg:Expr)(is:List Nat)(bd:Dm.FB):Prop where
 ex:∃g,(∀cl C s H fp,PG (aW X nm scope own cl C s H fp) tg g)/\BD is g bd
theorem c_n(i:Nat){x:Str}{px:Pos}(hN:(nm++own).Nodup)(hi:(nm++own)[i]?=some x)(hx:(relabel scope X.env).names.lookup x=some .local):TGc X nm scope own (.Name x px) [i] (Dm.bN i):=
 ⟨⟨_,fun cl C s H fp=>mD (X:=aW X nm scope own cl C s H fp) hN hi (.inl hx) (.inr hx),yX i⟩⟩
theorem c_t{es:List Expr}{k:Nat}{tpos:Pos}(hc:X.calm=true)(hg:∀cl C s H fp,PGs (aW X nm scope own cl C s H fp) es (gh is))(hn:∀cl C,(assignEach es (compEnvC scope cl C X.env)).length=is.length:=by intro _ _;rfl)
  (hst:∀cl C,(assignEach es (compEnvC scope cl C X.env)).findIdx? (·.1)=none:=by intro _ _;rfl):TGc X nm scope own (.Tuple es k tpos) is (Dm.bT is):=
 ⟨⟨_,fun cl C s H fp=>BU (X:=aW X nm scope own cl C s H fp) hc (hg cl C s H fp) (hn cl C) (hst cl C),Cv is rfl⟩⟩
theorem Lj(hc:X.calm=true)(S:c_ X nm scope)(hi:DI X tg iter fi)(hg:TGc X nm scope own tg is bd)(ht:∀cl C s H fp,DTs (aW X nm scope own cl C s H fp) PB t)(he:∀cl C s H fp,DE (aW X nm scope own cl C s H fp) PK f)
  (hl:∀i∈is,X.N.length<=i) (hs:∀x,foldedSetIterable iter X.env x=pure x:=by intro _;rfl):DE X (.ListComp PK [⟨tg,iter,PB,0⟩] scope pos) (Dm.cC fi own.length bd t f):=by
 obtain⟨g,h1,h2⟩:=hg.ex;intro uW s σ H Q I h;exact yZ hc S hi h1 ht he hs uW s σ H Q I (sd h2 (fun i hi=>by rw[I.len];exact hl i hi) h)
theorem Lk(j:Nat){y:Str}{py PL:Pos}(hN:X.N.Nodup)(hc:X.calm=true)(S:c_ X nm scope)(hi:DI X tg iter fi)(hg:TGc X nm scope own tg is bd)(ht:∀cl C s H fp,DTs (aW X nm scope own cl C s H fp) PB t)(he:∀cl C s H fp,DE (aW X nm scope own cl C s H fp) PK f)
  (hl:∀i∈is,X.N.length<=i) (hj:X.N[j]?=some y:=by rfl) (hy:Loc X.env.scope y:=by trivial)
  (hsw:swapsWith (.ListComp PK [⟨tg,iter,PB,0⟩] scope pos) (some (.Name y py)) PL.line X.env=pure true:=by rfl) (hs:∀x,foldedSetIterable iter X.env x=pure x:=by intro _;rfl)
  (hf:X.fn y=true\/X.env.scope.names.lookup y=some .local:=by trivial):DS X (.Assign [.Name y py] (.ListComp PK [⟨tg,iter,PB,0⟩] scope pos) PL) (Dm.sA j (Dm.cC fi own.length bd t f)):=by
 obtain⟨g,h1,h2⟩:=hg.ex;intro uW s σ H D I h;exact gj hN hj hy hc S hi h1 ht he hsw hs hf uW s σ H D I (sd h2 (fun i hi=>by rw[I.len];exact hl i hi) (IS h))
end
theorem nE{H0:Hp}:∀{ds:List Dm.Dat} {bs:List Bool} {vs:List V},az H0 vs ds->Dm.bools ds=some bs->vs=bs.map V.bl
 |[],bs,vs,r,e=>by cases r;cases e;rfl
 |.bl b::ds,bs,vs,r,e=>by
  cases r with
  |cons r rs=>
   unfold Dm.bools at e;cases q:Dm.bools ds with
   |none=>rw[q]at e;cases e
   |some cs=>rw[q]at e;cases e;cases Rep.rZ r;rw[nE rs q];rfl
 |.non::ds,bs,vs,r,e=>by cases e
 |.int _::ds,bs,vs,r,e=>by cases e
 |.str _::ds,bs,vs,r,e=>by cases e
 |.tup _::ds,bs,vs,r,e=>by cases e
 |.lst _::ds,bs,vs,r,e=>by cases e
 |.dct _ _::ds,bs,vs,r,e=>by cases e
theorem Ll:CallD (fun xs H Q=>∃(a:Addr) (bs:List Bool),xs=[.ref a]/\Rd H a (.lst (bs.map V.bl))/\Q (.bl (bs.all id)) H) Dm.rY:=by
 intro H0 H vs ds z Q s rs e k;unfold Dm.rY at e;split at e
 ·split at e
  ·rename_i bs hb;cases e;cases rs with
   |cons r rr=>cases rr;obtain⟨a,us,rfl,qa,ra⟩:=bx s r;have:=nE ra hb;subst this;exact⟨a,bs,rfl,qa,k _ H0 H (aD.refl s) (.bl _)⟩
  ·cases e
 ·cases e
theorem Lm:CallD (fun xs H Q=>(∃i,xs=[.int i]/\Q (.int i) H)\/∃k,xs=[.bl k]/\Q (.int (if k then 1 else 0)) H) Dm.mz:=by
 intro H0 H vs ds z Q s rs e k;unfold Dm.mz at e;split at e
 ·cases e;cases rs with
  |cons r rr=>cases rr;cases aA r;exact .inl ⟨_,rfl,k _ H0 H (aD.refl s) (.int _)⟩
 ·cases e;cases rs with
  |cons r rr=>cases rr;cases y9 r;exact .inr ⟨_,rfl,k _ H0 H (aD.refl s) (.int _)⟩
 ·cases e
section
variable{X:Cx}{a b c e:Expr}{f:Dm.FE}{fs:List Dm.FE}{p p2 pos:Pos}
theorem ze(hc:X.calm=true)(hg:Gl X "all")(hm:X.mg "all" = none)(ha:DA X [e] fs)(he:starEach [e] X.env=[(false,eval e X.env)]:=by rfl)(HL:(backTo pos (starEach [] X.env)).any (·.1)=false:=by rfl) :
  DE X (.Call (.Name "all" p) [e] [] pos) (Dm.eB Dm.rY fs):=AV (AY hc) Ll (by rfl) hg hm ha (he:=he) (HL:=HL)
theorem CL(hg:Gl X "int")(hm:X.mg "int" = none)(ha:DA X [e] fs)(he:starEach [e] X.env=[(false,eval e X.env)]:=by rfl)(HL:(backTo pos (starEach [] X.env)).any (·.1)=false:=by rfl) :
  DE X (.Call (.Name "int" p) [e] [] pos) (Dm.eB Dm.mz fs):=CH AD Lm (by rfl) hg hm ha (he:=he) (HL:=HL)
end
noncomputable def cJ(sc:Scope):List Str->List Str->Bool
 |[],[]=>true
 |x::N,y::nm=>(x == y||(sc.names.lookup y).isNone)&&cJ sc N nm
 |_,_=>false
theorem cJ.len{sc:Scope}:∀{N nm:List Str},cJ sc N nm=true->nm.length=N.length
 |[],[],_=>rfl
 |[],_::_,h=>by cases h
 |_::_,[],h=>by cases h
 |x::N,y::nm,h=>by rw[cJ,SQ]at h;rw[S1,S1,cJ.len h.2]
theorem cJ.at{sc:Scope}:∀{N nm:List Str},cJ sc N nm=true->∀(i:Nat) (x:Str),nm[i]?=some x->N[i]?=some x\/sc.names.lookup x=none
 |[],[],_,i,x,e=>by simp at e
 |[],_::_,h,_,_,_=>by cases h
 |_::_,[],h,_,_,_=>by cases h
 |x::N,y::nm,h,0,z,e=>by
  rw[cJ,SQ,V4]at h;simp at e;subst e;rcases h.1 with q | q
  ·have:x=y:=by simpa using q
   subst this;exact .inl rfl
  ·exact .inr (by simpa using q)
 |x::N,y::nm,h,i+1,z,e=>by rw[cJ,SQ]at h;rw[Ve]at e ⊢;exact cJ.at h.2 i z e
noncomputable def nF(osc:Scope)(N nm:List Str)(sc:Scope):Bool:=
 sc.names.all (fun y=>y.2 != .cell)&&sc.names.all (fun y=>y.2 != .local||sc.names.lookup y.1 == some .local) &&
 sc.names.all (fun y=>y.2 != .free||(osc.names.lookup y.1 == some .cell||osc.names.lookup y.1 == some .free))&&nm.all (fun x=>sc.names.lookup x != some .local)&&cJ sc N nm
theorem c_.of{X:Cx}{nm:List Str}{scope:Scope}(h:nF X.env.scope X.N nm scope=true)(hk:scope.kind=.function):c_ X nm scope:=by
 unfold nF at h;simp only[SQ,TM]at h;obtain⟨⟨⟨⟨h1,h2⟩,h3⟩,h4⟩,h5⟩:=h;refine⟨hk,fun y hy=>?_,fun y hy hl=>?_,fun y hy hf=>?_,fun x hx=>?_,cJ.len h5,cJ.at h5⟩
 ·have:=h1 y hy;simpa using this
 ·have:=h2 y hy;rw[hl]at this
  simpa using this
 ·have:=h3 y hy;rw[hf]at this;have:(X.env.scope.names.lookup y.1 == some .cell||X.env.scope.names.lookup y.1 == some .free)=true:=by simpa using this
  rw[V4,beq_iff_eq,beq_iff_eq]at this;exact this
 ·have:=h4 x hx;simpa using this
section
variable{X:Cx}{PK tg iter:Expr}{PB:List Expr}{scope:Scope}{pos:Pos}{fi:Dm.FI}{bd:Dm.FB}{is:List Nat}{t:Dm.FT}{f:Dm.FE}
theorem ux{l:List Nat}{n:Nat}(h:(l.all fun i=>decide (n<=i))=true):∀i∈l,n<=i:=fun i hi=>of_decide_eq_true (TM.mp h i hi)
theorem Ox(nm own:List Str)(hg:TGc X nm scope own tg is bd)(hi:DI X tg iter fi)(ht:∀cl C s H fp,DTs (aW X nm scope own cl C s H fp) PB t)(he:∀cl C s H fp,DE (aW X nm scope own cl C s H fp) PK f)
  (hc:X.calm=true:=by rfl) (hk:scope.kind=.function:=by rfl) (hS:nF X.env.scope X.N nm scope=true:=by rfl) (hl:(is.all fun i=>decide (X.N.length<=i))=true:=by rfl) (hs:∀x,foldedSetIterable iter X.env x=pure x:=by intro _;rfl) :
  DE X (.ListComp PK [⟨tg,iter,PB,0⟩] scope pos) (Dm.cC fi own.length bd t f):=Lj hc (c_.of hS hk) hi hg ht he (ux hl) hs
theorem Rj(j:Nat)(nm own:List Str){y:Str}{py PL:Pos}(hN:X.N.Nodup)(hg:TGc X nm scope own tg is bd)(hi:DI X tg iter fi)(ht:∀cl C s H fp,DTs (aW X nm scope own cl C s H fp) PB t)(he:∀cl C s H fp,DE (aW X nm scope own cl C s H fp) PK f)
  (hc:X.calm=true:=by rfl) (hk:scope.kind=.function:=by rfl) (hS:nF X.env.scope X.N nm scope=true:=by rfl) (hl:(is.all fun i=>decide (X.N.length<=i))=true:=by rfl) (hj:X.N[j]?=some y:=by rfl) (hy:Loc X.env.scope y:=by trivial)
  (hsw:swapsWith (.ListComp PK [⟨tg,iter,PB,0⟩] scope pos) (some (.Name y py)) PL.line X.env=pure true:=by rfl) (hs:∀x,foldedSetIterable iter X.env x=pure x:=by intro _;rfl)
  (hf:X.fn y=true\/X.env.scope.names.lookup y=some .local:=by trivial):DS X (.Assign [.Name y py] (.ListComp PK [⟨tg,iter,PB,0⟩] scope pos) PL) (Dm.sA j (Dm.cC fi own.length bd t f)):=
 Lk j hN hc (c_.of hS hk) hi hg ht he (ux hl) hj hy hsw hs hf
end
section
variable{f:Dm.FE}{a:Addr}{X:Cx}{K:gc}{H:Hp}
theorem PI.or{tg it:Expr}{t t':TI}(h:PI X tg it t)(h':PI X tg it t'):PI X tg it (fun σ H R=>t σ H R\/t' σ H R):=fun uW s σ H R I q=>q.elim (h uW s σ H R I) (h' uW s σ H R I)
theorem Oz{σ:L2.St}{R:It->Hp->Prop}(h:tDI (Dm.iS f) σ H R):mW K (tD f) σ H R\/BX K (tD f) σ H R:=by
 obtain⟨H0,ρ,ys,ρ',st,e,k⟩:=h;unfold Dm.iS at e;split at e
 ·cases e
 rename_i x ρ1 e1;split at e
 ·rename_i ds ρ2 e2;cases e;exact .inl (Q6 ⟨H0,ρ,_,_,st,by unfold Dm.iL;rw[e1];dsimp only;rw[e2],k⟩)
 ·rename_i ds ρ2 e2;cases e;exact .inr (Q7 ⟨H0,ρ,_,_,st,by unfold Dm.iT;rw[e1];dsimp only;rw[e2],k⟩)
 ·cases e
theorem i_S{tg e:Expr}(h:DE X e f):DI X tg e (Dm.iS f):=PI.weak (PI.or (mE h) (BY h)) fun _ _ _=>Oz
noncomputable def CM(K:gc):Bool:=K.all fun p=>match p.2.cls with | .type n=>n != "list" | _=>true
theorem lookup_mem{o:Obj}:∀{K:List (Addr×Obj)},K.lookup a=some o->(a,o)∈K
 |[],h=>by cases h
 |(b,x)::r,h=>by
  rw[TL]at h;cases q:a == b with
  |true=>
   rw[q]at h;cases h;have:a=b:=by simpa using q
   rw[this];exact Sw
  |false=>rw[q]at h;exact Sy _ (lookup_mem h)
theorem Ln{f:List Dm.Dat->Option Dm.RV}{ns:List Int}{E:XK}(hf:f [.lst (ns.map Dm.Dat.int)]=some (.val (.bl true)))(hK:CM K=true)(hS:SqL K H a (ns.map V.int)) :
  spD f [.ref a] H (fun v _=>v=.bl true) E:=by
 have hq:Rd H a (.lst (ns.map V.int)):=by
  rcases hS with h | ⟨o,its,n,hk,hc,_⟩
  ·exact h
  ·have:=TM.mp hK _ (lookup_mem hk);dsimp only at this;rw[hc]at this;exact absurd this (by decide)
 have hr:∀ns:List Int,az H (ns.map V.int) (ns.map Dm.Dat.int):=fun ns=>by
  induction ns with
  |nil=>exact .nil
  |cons n ns ih=>exact .cons (.int n) ih
 exact⟨H,_,_,ak.refl _,.cons (.lst hq (hr ns)) .nil,hf,fun v H0' H' _ r=>Rep.rZ r⟩
end
end Br
namespace Dm
noncomputable def iRd(a b c:FE):FI:=fun ρ=>match a ρ with
 | some (.val (.int i),ρ1)=>(match b ρ1 with
  | some (.val (.int j),ρ2)=>(match c ρ2 with
   |some (.val (.int k),ρ3)=>if k=-1/\j<=BIG/\-BIG<=j/\i<=BIG/\-BIG<=i then some (downs i (i-j).toNat,ρ3) else none
   |_=>none)
  |_=>none)
 |_=>none
noncomputable def AZ(a:FE):FI:=fun ρ=>match a ρ with
 |none=>none
 |some (x,ρ1)=>match tk ρ1 x with
  |some (.lst ds,ρ2)=>some (ds.reverse,ρ2)
  |_=>none
noncomputable def j7:Nat->List Dat->List Dat
 |_,[]=>[]
 |i,d::ds=>.tup [.int (i:Nat),d]::j7 (i+1) ds
noncomputable def iEn(a:FE):FI:=fun ρ=>match a ρ with
 |none=>none
 |some (x,ρ1)=>match tk ρ1 x with
  |some (.lst ds,ρ2)=>some (j7 0 ds,ρ2)
  |_=>none
noncomputable def nG(d:Dat):Option RV:=match d with
 |.lst ds=>some (.new (.lst ds.reverse))
 |_=>none
noncomputable def qN:List Dat->Option RV
 |[.int j]=>if j<=1000000/\-1000000<=j then some (.new (.lst (ups 0 j.toNat))) else none
 |_=>none
end Dm
namespace Br
open PySem PySem.Spec PyProof.Rows L2
theorem qO{X:Cx}{uW:List (Addr×Obj)}{σ:L2.St}{H:Hp}{s:Shared}{h':Heap}{t':Nat}{fp:List Addr}{p:Addr}{o:HO}(I:Inv X uW σ H s)(hf:∀b∈fp,ql X uW H b)
  (k:∀b u,b∉fp->s.heap.get? b=some u->h'.get? b=some u) (hp:s.heap.objs.size<=p) (new:aT X.prog X.w (upd H p o) h' p o):Inv X uW σ (upd H p o) { s with heap:=h',toks:=t' }:=by
 have hn:H p=none:=I.hok.fresh hp;have nf:∀b u,H b=some u->b∉fp:=fun b u e z=>by rw[(hf b z).1]at e;cases e
 have nL:X.env.locals∉fp:=fun z=>(hf _ z).2.1 rfl;refine I.step (g':=s.gens) (d':=s.drawn) (ch:=fp) (fun b hb=>?_) (fun b u _ _ hc e _=>k b u hc e) (fun b u _ _ hc e _=>⟨u.slots,k b u hc e⟩)
  (fun b u _ e n=>by rw[aq (S7 (SX (SI e) hp))];exact n) (fun b u hc e=>⟨u,k b u hc e⟩)
  (fun b xs q=>by rw[aq (aM q hn)];exact q) (fun b u xs q=>by rw[aq (aM q hn)];exact q) (fun b ps q=>⟨#[],by rw[aq (aM q hn),q];simp⟩) (fun m hm=>?_) (fun b u e=>?_) I.bare
 ·obtain⟨f0,f1,f2,f3,f4,f5⟩:=hf b hb;exact⟨f3,f1,f4,f5⟩
 ·obtain⟨o,es,ep,ho,r⟩:=hm;exact⟨o,es,ep,k _ o nL ho,r⟩
 ·by_cases hb:b=p
  ·subst hb;rw[ao]at e;cases e;exact new
  ·rw[aq hb]at e;refine(I.hok b u e).stay (fun c v hc q=>k c v ?_ q) (fun c q=>by rw[aq (aM q hn)];exact q) fun c xs q=>by rw[aq (aM q hn)];exact q
   rcases hc with z | z
   ·rw[z];exact nf b u e
   ·exact nf c _ z
noncomputable def Itv(K:gc)(a:Addr)(n:Nat):It:=
 ⟨fun i H=>∃xs x,SqL K H a xs/\xs.length=n/\xs.reverse[i]?=some x,fun i H x H'=>H'=H/\∀xs,SqL K H a xs->xs.reverse[i]?=some x,fun i H=>n<=i⟩
theorem CN{P:Program}{w:World}{K:gc}{tg:Expr}(a it:Addr)(n:Nat):Turn P w K tg (Itv K a n) [it] it (fun i h=>i<=n/\h.IsRevIter it a ((n:Int)-1-(i:Nat))) where
 mem:=by simp
 obj:=fun i h st b hb=>by
  have e:b=it:=by simpa using hb
  subst e;obtain⟨_,o,e,c,d⟩:=st;exact⟨o,e,fun v z=>by rw[d]at z;cases z⟩
 keep:=fun i h h' st k=>⟨st.1,st.2.at fun o e=>k it (by simp) o e⟩
 item:=by
  intro X hP hw hK hc i uW s σ H E I hf st hg;subst hP hw hK;obtain⟨xs,x,hq,hl,hx⟩:=hg;obtain⟨its,rv,p,hz⟩:=I.list hq;have hi:i<n:=by have:=(Su.mp hx).1;rw[Uh,hl]at this;exact this
  rw[Vl (by omega),hl]at hx;obtain⟨u,hu,ru⟩:=rv.get hx;obtain⟨f0,f1,f2,f3,f4,f5⟩:=hf it (by simp);obtain⟨_,st⟩:=st;have ei:((n:Int)-1-(i:Nat))=((n-1-i:Nat):Int):=by omega
  rw[ei]at st;refine wpAny_pyNext_rev_item st p.isList (x:=u) (by simpa using hu) fun h' st' sb=>?_;have ej:((n-1-i:Nat):Int)-1=(n:Int)-1-((i+1:Nat):Int):=by omega
  rw[ej]at st';have I1:Inv X uW σ H { s with heap:=h' }:=I.turned (t':=s.toks) (fun b o hb e=>(sb.2 b hb).trans e) f0 f1 f3 f4 f5;obtain⟨o,e,c,d⟩:=id st';refine⟨u,rfl,tY (s:={ s with heap:=h' }) e c d (by decide) ⟨x,H,I1,ru,⟨rfl,fun ys hy=>?_⟩,⟨hi,st'⟩,fun b hb=>(hf b hb).1⟩⟩;rw[I.fY hy hq,Vl (by omega),hl];exact hx
 done:=by
  intro X hP hw hK hc i uW s σ H E I hf st hg;subst hP hw hK;obtain⟨f0,f1,f2,f3,f4,f5⟩:=hf it (by simp);obtain⟨h1,st⟩:=st;have h2:n<=i:=hg;have ei:((n:Int)-1-(i:Nat))=-1:=by omega
  rw[ei]at st;exact wpAny_pyNext_rev_end (I.ok.hd hc) st fun h' eb=>⟨rfl,I.turned (t':=s.toks) (fun b o hb e=>eb b o hb e) f0 f1 f3 f4 f5⟩
 self:=fun _ _ _ _ _ st h=>wpAny_pyIter_revIter st.2 h
def I0(K:gc)(tl:TE):TI:=fun σ H R=>tl σ H fun x H1=>∃a xs,x=.ref a/\SqL K H1 a xs/\R (Itv K a xs.length) H1
section
variable{X:Cx}{tg l:Expr}{tl:TE}{p pos:Pos}
theorem CO{Q:Value->Shared->Prop}{Qx:VK}{uW:List (Addr×Obj)}{s:Shared}{σ:L2.St}{H:Hp}(hg:Gl X "reversed")(hm:X.mg "reversed" = none)(hl:PE X l tl)(hs:starEach [l] X.env=[(false,eval l X.env)])(I:Inv X uW σ H s)(h:tl σ H Qx)
  (k:∀x H1 s1,Inv X uW σ H1 s1->Qx x H1->∃a xs,x=.ref a/\SqL X.K H1 a xs/\∀its:List Value,Vals xs its->PlainL s1.heap a its.toArray->xs.length<=sizeLine->Q (.ref s1.heap.objs.size) { s1 with heap:=s1.heap.push (revObj a ((its.toArray.size:Int)-1)) }) :
  wpAny (model X.prog X.w) X.A (eval (.Call (.Name "reversed" p) [l] [] pos) X.env) Q X.xe s:=by
 refine Call_ (cY I hg hm boot_reversed (Tn (spliced_more ?_ (by rw[hs];rfl)) (by rw[hs];rfl) rfl));refine thn (hl uW s σ H _ I h) fun v s1 ⟨x,H1,I1,r1,q1⟩=>?_;obtain⟨a,xs,e,hq,q⟩:=k x H1 s1 I1 q1;subst e;cases r1;obtain⟨its,rv,pl,hz⟩:=I1.list hq;refine Um (call_reversed_list pl.isList (q its rv pl hz))
theorem Lo(hg:Gl X "reversed")(hm:X.mg "reversed" = none)(hl:PE X l tl)(hs:starEach [l] X.env=[(false,eval l X.env)]:=by rfl):PI X tg (.Call (.Name "reversed" p) [l] [] pos) (I0 X.K tl):=by
 intro uW s σ H R I h;refine CO hg hm hl hs I h fun x H1 s1 I1 q1=>?_;obtain⟨a,xs,e,hq,q⟩:=q1;refine⟨a,xs,e,hq,fun its rv pl hz=>?_⟩;have hn:(its.toArray.size:Int)=((xs.length:Nat):Int):=by rw[SG,rv.length]
 have st:({ s1 with heap:=s1.heap.push (revObj a ((its.toArray.size:Int)-1)) }:Shared).heap.IsRevIter s1.heap.objs.size a (((xs.length:Nat):Int)-1-((0:Nat):Int)):=⟨_,S2 _ rfl,rfl,by rw[hn];simp[revObj]⟩
 refine wpAny_pyIter_revIter st ?_;refine⟨s1.heap.objs.size,[s1.heap.objs.size],_,_,H1,rfl,I1.kept (t':=s1.toks) fun b o e=>Sz _ e,CN a _ xs.length,⟨S6 _,st⟩,fun b hb=>?_,q⟩;have e:b=s1.heap.objs.size:=by simpa using hb
 subst e;exact I1.wW (SA _) (I1.hok.fresh (SA _))
end
noncomputable def Ite(K:gc)(a:Addr):It:=
 ⟨fun i H=>∃xs x,SqL K H a xs/\xs[i]?=some x,fun i H x H'=>∃p v,H p=none/\x=.ref p/\H'=upd H p (.tup [.int i,v])/\∀xs,SqL K H a xs->xs[i]?=some v,fun i H=>∃xs,SqL K H a xs/\xs.length<=i⟩
theorem A0{P:Program}{w:World}{K:gc}{elts:List Expr}{x1}{tp:Pos}(a e it:Addr)(PR:e≠it):Turn P w K (.Tuple elts x1 tp) (Ite K a) [e,it] e (fun i h=>(∃old,IsEnum h e it (i:Nat) old)/\h.IsListIter it a i) where
 mem:=by simp
 obj:=fun i h st b hb=>by
  obtain⟨⟨old,he⟩,o,e1,c,d⟩:=st;rcases SD.mp hb with rfl | hb
  ·exact ⟨_,he,fun v z=>by have z':V6 _=VA v:=z;cases z'⟩
  ·have e2:b=it:=by simpa using hb
   subst e2;exact⟨o,e1,fun v z=>by rw[d]at z;cases z⟩
 keep:=fun i h h' st k=>⟨let ⟨old,he⟩:=st.1;⟨old,k e (by simp) _ he⟩,st.2.at fun o z=>k it (by simp) o z⟩
 item:=by
  intro X hP hw hK hc i uW s σ H E I hf st hg;subst hP hw hK;obtain⟨xs,x,hq,hx⟩:=hg;obtain⟨its,rv,p,hz⟩:=I.list hq;obtain⟨u,hu,ru⟩:=rv.get hx;obtain⟨⟨old,he⟩,Mu⟩:=st;refine wpAny_pyNext_enum_item he Mu p.isList (x:=u) (by simpa using hu) PR fun h1 heo Rk ht1 hz1 hk1=>?_;refine⟨_,rfl,wpAny_letOwnedTupleGo_enum heo fun h2 he2 hs2=>?_⟩;have HY:e<s.heap.objs.size:=SI he;have ht2:h2.get? s.heap.objs.size=some { cls:=.type "tuple",data:=.seq #[.int i s.toks,u] }:=(hs2.2 _ (Uq HY)).trans ht1;have k2:∀b o,b∉[e,it]->s.heap.get? b=some o->h2.get? b=some o:=fun b o hb z=>by have n1:b≠e:=fun y=>hb (by simp[y]);have n2:b≠it:=fun y=>hb (by simp[y]);exact(hs2.2 b n1).trans (hk1 b o n1 n2 z)
  have hn:H s.heap.objs.size=none:=I.hok.fresh (SA _);have I2:Inv X uW σ (upd H s.heap.objs.size (.tup [.int i,x])) { s with heap:=h2,toks:=s.toks+1 }:=
   qO I hf k2 (SA _) ⟨by simp[sizeLine],[.int i s.toks,u],.cons ⟨s.toks,rfl⟩ (.cons ru .nil),_,ht2,rfl,_,rfl⟩
  refine⟨.ref s.heap.objs.size,_,I2,rfl,⟨_,x,hn,rfl,rfl,fun ys hy=>by rw[I.fY hy hq];exact hx⟩,⟨⟨u,?_⟩,?_⟩,fun b hb=>?_⟩
  ·have:(((i+1:Nat):Int))=(i:Int)+1:=by omega
   rw[this];exact he2
  ·exact Rk.at fun o z=>(hs2.2 it (Ne.symm PR)).trans z
  ·have hb1:b≠s.heap.objs.size:=fun y=>by
    rcases SD.mp hb with z | z
    ·rw[y]at z;exact absurd z (Uq HY)
    ·have z':b=it:=by simpa using z
     obtain⟨o,ho,_⟩:=Mu;have:=SI ho;rw[<- z',y]at this;exact TU _ this
   rw[aq hb1];exact(hf b hb).1
 done:=by intro X hP hw hK hc i uW s σ H E I hf st hg;subst hP hw hK;obtain⟨xs,hq,hx⟩:=hg;obtain⟨its,rv,p,hz⟩:=I.list hq;obtain⟨f0,f1,f2,f3,f4,f5⟩:=hf it (by simp);obtain⟨⟨old,he⟩,Mu⟩:=st;have hl:=rv.length;exact wpAny_pyNext_enum_end (I.ok.hd hc) he Mu p.isList (by simp;omega) fun h' eb=>⟨rfl,I.turned (t':=s.toks) (fun b o hb e=>eb b o hb e) f0 f1 f3 f4 f5⟩
 self:=fun A i s Q E st h=>by
  obtain⟨⟨old,he⟩,Mu⟩:=st;have hT:s.TypeIs (.ref e) "enumerate" := ⟨_,he,rfl⟩
  refine wpAny_pyIter_slot hT F.slot_enumerate_iter (wpAny_call_entry F.slot_enumerate_iter hT F.entry_enumerate_iter ?_ (F.args_enumerate_iter_1 _));show wpAny _ _ (ret (.ref e)) _ _ s;exact wpAny_pure ⟨_,rfl,"enumerate",_,hT,F.slot_enumerate_next.lookup,h⟩
def OA(K:gc)(tl:TE):TI:=fun σ H R=>tl σ H fun x H1=>∃a,x=.ref a/\(∃xs,SqL K H1 a xs)/\R (Ite K a) H1
section
variable{X:Cx}{l:Expr}{tl:TE}{p pos:Pos}{elts:List Expr}{x1:Nat}{tp:Pos}
theorem GY(hg:Gl X "enumerate")(hm:X.mg "enumerate" = none)(hl:PE X l tl)(hs:starEach [l] X.env=[(false,eval l X.env)]:=by rfl):PI X (.Tuple elts x1 tp) (.Call (.Name "enumerate" p) [l] [] pos) (OA X.K tl):=by
 intro uW s σ H R I h;refine Call_ (cY I hg hm boot_enumerate (Tn (spliced_more ?_ (by rw[hs];rfl)) (by rw[hs];rfl) rfl));refine thn (hl uW s σ H _ I h) fun v s1 ⟨x,H1,I1,r1,q1⟩=>?_;obtain⟨a,e,⟨xs,hq⟩,q⟩:=q1;subst e;cases r1;obtain⟨its,rv,pl,hz⟩:=I1.list hq;refine Um (call_enumerate_list pl.isList fun h' he Mu hsz k=>?_);have I2:Inv X uW σ H1 { s1 with heap:=h' }:=I1.kept (t':=s1.toks) k;have T:=A0 (P:=X.prog) (w:=X.w) (K:=X.K) (elts:=elts) (x1:=x1) (tp:=tp) a (s1.heap.objs.size+1) s1.heap.objs.size (Nat.succ_ne_self _);refine T.self X.A 0 { s1 with heap:=h' } _ X.xe ⟨⟨_,he⟩,Mu⟩ ?_;refine⟨s1.heap.objs.size+1,[s1.heap.objs.size+1,s1.heap.objs.size],_,_,H1,rfl,I2,T,⟨⟨_,he⟩,Mu⟩,fun b hb=>?_,q⟩;have:s1.heap.objs.size<=b:=by
  rcases SD.mp hb with rfl | hb
  ·exact Vy _
  ·have:b=s1.heap.objs.size:=by simpa using hb
   exact Nat.le_of_eq this.symm
 exact I1.wW this (I1.hok.fresh this)
end
theorem xE:typeLookup (.type "list_reverseiterator") "__len__" = pure none:=by rw[typeLookup_type,builtinLookup_eq_fast];kernel_rfl
theorem CP:typeLookup (.type "list_reverseiterator") "__length_hint__" = pure (some (.builtin "list_reverseiterator.__length_hint__")):=by rw[typeLookup_type,builtinLookup_eq_fast];kernel_rfl
section
variable{prog:Program}{w:World}{A:Around}{E:Value->Shared->Prop}{s:Shared}
section
variable{I l:Addr}
theorem CQ{i:Int}{Q:Bool->Shared->Prop}(Mu:s.heap.IsRevIter I l i)(h:Q false s):wpAny (model prog w) A (Ur (.ref I)) Q E s:=by
 unfold Ur;refine wpAny_bind (wpAny_specialOf Mu.typeIs xE ?_);show wpAny _ A (specialOf (TQ I) (U8 "__length_hint__") >>= _) _ _ _;refine wpAny_bind (wpAny_specialOf Mu.typeIs CP ?_)
 generalize hid:("list_reverseiterator.__length_hint__" : String)=id0
 wp_delta
 rw[show splitId id0=some ("list_reverseiterator","__length_hint__") from by subst hid;decide +kernel];subst hid;refine wpAny_bind (wpAny_isInstance (T := "list_reverseiterator") (b:=true) Mu.typeIs (by rw[isSubtype_type];kernel_rfl) ?_);refine wpAny_ite_split (fun PM=>absurd PM (by decide)) (fun _=>?_);refine wpAny_ite_split (fun _=>?_) (fun PM=>absurd (by decide +kernel) PM);refine wpAny_ite_split (fun PM=>absurd PM (by decide +kernel)) (fun _=>wpAny_pure h)
theorem xF{R:Result->Shared->Prop}{items:Array Value}(hh:A.handled=none)(Mu:s.heap.IsRevIter I l ((items.size:Int)-1))(hl:s.heap.IsList l items)(PR:l≠I)(Fd:items.size<=sizeLine)
  (S:Addr) (res:Value) (c₀:Nat) (hSI:S≠I) (hSl:S≠l) (hS:s.heap.get? S=some { cls:=.type "list",data:=.seq #[] c₀ })
  (hR:∀ h' tk acc' c',(∀ b o,b≠S→b≠I→s.heap.get? b=some o→h'.get? b=some o)→h'.get? S=some { cls:=.type "list",dict:=none,data:=.seq acc' c',slots:=#[] } →
   ItemsOf (fun i v=>items[items.size-1-i]?=some v) acc' items.size->R (.ok (.ret res)) { s with heap:=h',toks:=tk }) :
  wpAny (model prog w) A.in1 (Us (.ref S) (.ref I) res)
   (fun PF s'=>match PF with | .done f=>R (.ok f) s' | .again c'=>c'.quiet=true/\codeAny (model prog w) A c' R s') (fun e s'=>R (.error e) s') s:=by
 have hSf:S∉[I,l]:=fun hm=>by
  rcases SD.mp hm with z | z
  ·exact hSI z
  ·exact hSl (SY.mp z)
 have W:=(Walks.listRev (prog:=prog) (w:=w) (A:=A.in1) hh I l PR items).toS;unfold Us;refine wpAny_bind (wpAny_typeOf (T := "list_reverseiterator") Mu.typeIs ?_);have h1:Builtin.List.listSameRef (.ref S) (.ref I)=false:=by simp[Builtin.List.listSameRef,hSI]
 have h2:(UL "list_reverseiterator" == UL "list")=false:=by decide
 have h3:(UL "list_reverseiterator" == UL "tuple")=false:=by decide
 simp only[h1,h2,h3,Bool.or_false,Tw,if_false];refine wpAny_bind (wpAny_pyIter_revIter Mu ?_);refine wpAny_bind (wpAny_holding (CQ Mu ?_));refine wpAny_ite_split (fun PM=>absurd PM (by decide +kernel)) (fun _=>wpAny_pure ⟨plainId_quiet F.plain_extend_loop _,?_⟩);have hst:(0<=items.size)/\s.heap.IsRevIter I l ((items.size:Int)-1-((0:Nat):Int))/\s.heap.IsList l items:=⟨S6 _,by simpa using Mu,hl⟩
 refine codeAny_extend_loopS W Fd S hSf res items.size 0 _ #[] c₀ rfl (S6 _) hst hS (ItemsOf.nil _) fun s' acc' c' hm hS' hacc=>?_;rw[Moved.eq_with hm];refine hR s'.heap s'.toks acc' c' (fun b o hb hb2 e=>hm.heap b o (fun hmem=>?_) e) hS' hacc;rcases SD.mp hmem with e' | hmem
 ·exact hb e'
 ·exact hb2 (SY.mp hmem)
theorem CS{R:Result->Shared->Prop}{items:Array Value}(hh:A.handled=none)(Mu:s.heap.IsRevIter I l ((items.size:Int)-1))(hl:s.heap.IsList l items)(PR:l≠I)(Fd:items.size<=sizeLine)
  (S:Addr) (hSI:S≠I) (hSl:S≠l) (hS:s.heap.get? S=some { cls:=.type "list",data:=.seq #[] })
  (hR:∀ h' tk acc' c',(∀ b o,b≠S→b≠I→s.heap.get? b=some o→h'.get? b=some o)→h'.get? S=some { cls:=.type "list",dict:=none,data:=.seq acc' c',slots:=#[] } →
   ItemsOf (fun i v=>items[items.size-1-i]?=some v) acc' items.size->R (.ok (.ret .none)) { s with heap:=h',toks:=tk }) :
  wpAny (model prog w) A.in1 (Builtin.«list.__init__» ⟨[.ref S,.ref I],[]⟩)
   (fun PF s'=>match PF with | .done f=>R (.ok f) s' | .again c'=>c'.quiet=true/\codeAny (model prog w) A c' R s') (fun e s'=>R (.error e) s') s:=by
 show wpAny _ A.in1 (do let old <- Builtin.List.listItems (.ref S);Builtin.List.listUpdate (.ref S) (fun _=>#[]);letGo old.toList.reverse;Us (.ref S) (.ref I) .none) _ _ s;refine wpAny_bind ?_;unfold Builtin.List.listItems;refine wpAny_bind (wpAny_seqItems hS rfl (wpAny_pure ?_));show wpAny _ A.in1 (updateSeq S (fun _=>#[]) >>= fun _=>letGo (#[]:Array Value).toList.reverse >>= fun _=>Us (.ref S) (.ref I) .none) _ _ s;refine wpAny_bind (wpAny_updateSeq hS rfl ?_);have hS₂:=Uu (Vd (fun _=>(#[]:Array Value))) hS rfl;have oth:∀b o,b≠S->s.heap.get? b=some o->(s.heap.update S (Vd (fun _=>(#[]:Array Value)))).get? b=some o:=
  fun b o hb e=>(Vh _ _ (Ne.symm hb)).trans e
 refine wpAny_bind (wpAny_letGo ?_);refine xF hh (Mu.at fun o e=>oth I o (Ne.symm hSI) e) (hl.at fun o e=>oth l o (Ne.symm hSl) e) PR Fd S .none _ hSI hSl hS₂ fun h' tk acc' c' hk hS' hacc=>?_;exact hR h' tk acc' c' (fun b o hb hb2 e=>hk b o hb hb2 (oth b o hb e)) hS' hacc
theorem qq{Q:Value->Shared->Prop}{items:Array Value}(hh:A.handled=none)(Mu:s.heap.IsRevIter I l ((items.size:Int)-1))(hl:s.heap.IsList l items)(PR:l≠I)(Fd:items.size<=sizeLine)
  (hQ:∀ h' tk acc' c',(∀ b o,b≠I→s.heap.get? b=some o→h'.get? b=some o)→h'.get? s.heap.objs.size=some { cls:=.type "list",dict:=none,data:=.seq acc' c',slots:=#[] } →
   ItemsOf (fun i v=>items[items.size-1-i]?=some v) acc' items.size->Q (.ref s.heap.objs.size) { s with heap:=h',toks:=tk }) :
  wpAny (model prog w) A (call (.type "list") [.ref I]) Q E s:=by
 refine callType_codes (Q₁:=fun obj s₁=>obj=.ref s.heap.objs.size/\s₁={ s with heap:=s.heap.push { cls:=.type "list",data:=.seq #[] } }) F.called_list (F.typeCall_list_1 _) F.entry_list_init
  (code_list_new _ ⟨rfl,rfl⟩) fun obj s₁ h₁=>?_
 obtain⟨rfl,rfl⟩:=h₁;have hS:(s.heap.push { cls:=.type "list",data:=.seq #[] }).get? s.heap.objs.size=some { cls:=.type "list",data:=.seq #[] }:=S2 _ rfl;obtain⟨oi,hoi,_⟩:=id Mu;obtain⟨ol,hol,_⟩:=id hl;refine⟨⟨_,hS,rfl⟩,F.args_list_init_2 _ _,CS (A:=A.in1) hh (Mu.at fun o e=>Sz _ e) (hl.at fun o e=>Sz _ e) PR Fd _ (Uq (SI hoi)) (Uq (SI hol)) hS fun h' tk acc' c' hk hS' hacc=>?_⟩;exact⟨rfl,hQ h' tk acc' c' (fun b o hb e=>hk b o (S7 (SI e)) hb (Sz _ e)) hS' hacc⟩
end
end
theorem nH{P:Nat->Value->Prop}{En:Array Value}{ys:List V}(h:ItemsOf P En ys.length)(k:∀i v,P i v->i<ys.length->∃y,ys[i]?=some y/\RelV y v):Vals ys En.toList:=by
 have:∀(ys:List V) (us:List Value),ys.length=us.length->(∀(i:Nat) (u:Value),us[i]?=some u->∃y,ys[i]?=some y/\RelV y u)->Vals ys us:=by
  intro ys
  induction ys with
  |nil=>intro us e _;cases us with
   |nil=>exact .nil
   |cons _ _=>cases e
  |cons y ys ih=>intro us e f;cases us with
   |nil=>cases e
   |cons u us=>obtain⟨y',h1,h2⟩:=f 0 u rfl;cases h1;exact .cons h2 (ih us (by simpa using e) fun i u' hu=>by simpa using f (i+1) u' (by simpa using hu))
 refine this ys En.toList (by have:=h.1;simp only[SN];exact this.symm) fun i u hu=>?_;have hu':En[i]?=some u:=by rw[<- TZ];exact hu
 have hi:i<ys.length:=by rw[<- h.1];exact(T9.mp hu').1
 exact k i u (h.2 i u hu') hi
def Lp(K:gc)(tl:TE):TE:=fun σ H Q=>tl σ H fun x H1=>∃a xs,x=.ref a/\SqL K H1 a xs/\∀q,H1 q=none->Q (.ref q) (upd H1 q (.lst xs.reverse))
def OB(ta:TA):TE:=fun σ H Q=>ta σ H fun vs H1=>∃j:Int,vs=[.int j]/\-(2 ^ 62)<=j/\j<=1000000/\∀q,H1 q=none->Q (.ref q) (upd H1 q (.lst ((SH j.toNat).map fun i=>V.int (i:Nat))))
section
variable{X:Cx}{l a:Expr}{tl:TE}{ta:TA}{p pos p0 iB:Pos}
theorem CT(hc:X.calm=true)(hgl:Gl X "list")(hml:X.mg "list" = none)(hg:Gl X "reversed")(hm:X.mg "reversed" = none)(hl:PE X l tl)(hs:starEach [l] X.env=[(false,eval l X.env)]:=by rfl)
  (hs0:starEach [.Call (.Name "reversed" p) [l] [] pos] X.env=[(false,eval (.Call (.Name "reversed" p) [l] [] pos) X.env)]:=by rfl) :
  PE X (.Call (.Name "list" p0) [.Call (.Name "reversed" p) [l] [] pos] [] iB) (Lp X.K tl):=by
 intro uW s σ H Q I h;refine wpAny_Call_Name_kw (cY I hgl hml boot_list (Tn (spliced_more ?_ (by rw[hs0];rfl)) (by rw[hs0];rfl) rfl));refine CO hg hm hl hs I h fun x H1 s1 I1 q1=>?_;obtain⟨a,xs,e,hq,q⟩:=q1;refine⟨a,xs,e,hq,fun its rv pl hz=>Um ?_⟩;have hal:a<s1.heap.objs.size:=by obtain⟨o,ho,_⟩:=pl.isList;exact SI ho
 have hn:=rv.length;refine qq (items:=its.toArray) (I.ok.hd hc) ⟨_,S2 _ rfl,rfl,rfl⟩ (pl.isList.at fun o e=>Sz _ e) (S7 hal) (by rw[SG,<- hn];exact hz) fun h' tk acc' c' hk hS' hacc=>?_;have hsz:({ s1 with heap:=s1.heap.push (revObj a ((its.toArray.size:Int)-1)) }:Shared).heap.objs.size=s1.heap.objs.size+1:=UE ..;have hp:s1.heap.objs.size<=({ s1 with heap:=s1.heap.push (revObj a ((its.toArray.size:Int)-1)) }:Shared).heap.objs.size:=by rw[hsz];exact Vy _
 have vl:Vals xs.reverse acc'.toList:=by
  refine nH (by rw[Uh,hn,<- SG];exact hacc) fun i v hv hi=>?_;rw[Uh]at hi;rw[SG]at hv;have hv':its[its.length-1-i]?=some v:=by simpa using hv
  rw[Vl hi,hn];have HY:=(Su.mp hv').1;have hx:xs[its.length-1-i]?=some (xs[its.length-1-i]'(by omega)):=SK _;obtain⟨u,hu,ru⟩:=rv.get hx;rw[hv']at hu;cases hu;exact⟨_,hx,ru⟩
 have ok:aT X.prog X.w (upd H1 ({ s1 with heap:=s1.heap.push (revObj a ((its.toArray.size:Int)-1)) }:Shared).heap.objs.size (.lst xs.reverse)) h' ({ s1 with heap:=s1.heap.push (revObj a ((its.toArray.size:Int)-1)) }:Shared).heap.objs.size (.lst xs.reverse):=⟨by rw[Uh];exact hz,acc'.toList,c',vl,by simpa using hS'⟩
 exact⟨.ref _,_,I1.laid (t':=tk) (fun b u e=>hk b u (S7 (SI e)) (Sz _ e)) hp ok,rfl,q _ (I1.hok.fresh hp)⟩
theorem GZ(hc:X.calm=true)(hgl:Gl X "list")(hml:X.mg "list" = none)(hg:Gl X "range")(hm:X.mg "range" = none)(ha:PA X [a] ta)(hs:starEach [a] X.env=[(false,eval a X.env)]:=by rfl)
  (hs0:starEach [.Call (.Name "range" p) [a] [] pos] X.env=[(false,eval (.Call (.Name "range" p) [a] [] pos) X.env)]:=by rfl) :
  PE X (.Call (.Name "list" p0) [.Call (.Name "range" p) [a] [] pos] [] iB) (OB ta):=by
 intro uW s σ H Q I h;refine wpAny_Call_Name_kw (cY I hgl hml boot_list (Tn (spliced_more ?_ (by rw[hs0];rfl)) (by rw[hs0];rfl) rfl));refine Call_ (cY I hg hm boot_range (Tn (thn (ha pos uW s σ H _ I h) fun us s1 ⟨vs,H1,I1,r1,q1⟩=>?_) hs rfl));obtain⟨j,e,q1,q2,q⟩:=q1;subst e;cases r1 with
 |cons r rr=>
  cases rr;obtain⟨t,rfl⟩:=r;refine call_range_1 (Um ?_);have hn:Uo 0 j 1=(j.toNat:Nat):=by rw[rangeSize_one];split<;>omega
  refine call_list_range (n:=j.toNat) (I.ok.hd hc) (IsRange.new ..) (small_one (by omega) (by omega) q1 (by omega)) hn (by omega) fun h' tk acc' c' hk hS' hacc=>?_;have hsz:(s1.heap.push { cls:=.type "range",data:=.fields #[.int 0 s1.toks,.int j t,.int 1 (s1.toks+1)] }).objs.size=s1.heap.objs.size+1:=UE ..;have hp:s1.heap.objs.size<=(s1.heap.push { cls:=.type "range",data:=.fields #[.int 0 s1.toks,.int j t,.int 1 (s1.toks+1)] }).objs.size:=by rw[hsz];exact Vy _
  have vl:Vals ((SH j.toNat).map fun i=>V.int (i:Nat)) acc'.toList:=by
   refine nH (by rw[Ss,S9];exact hacc) fun i v hv hi=>?_;obtain⟨t,rfl⟩:=hv;rw[Ss,S9]at hi;refine⟨.int (i:Nat),by rw[SS,Ua hi];rfl,t,?_⟩;have:(0:Int)+(i:Int)*1=i:=by omega
   rw[this]
  have ok:aT X.prog X.w (upd H1 (s1.heap.push { cls:=.type "range",data:=.fields #[.int 0 s1.toks,.int j t,.int 1 (s1.toks+1)] }).objs.size (.lst ((SH j.toNat).map fun i=>V.int (i:Nat)))) h' (s1.heap.push { cls:=.type "range",data:=.fields #[.int 0 s1.toks,.int j t,.int 1 (s1.toks+1)] }).objs.size (.lst ((SH j.toNat).map fun i=>V.int (i:Nat))):=
   ⟨by rw[Ss,S9,sizeLine_eq];omega,acc'.toList,c',vl,by simpa using hS'⟩
  exact⟨.ref _,_,I1.laid (t':=tk) (fun b u e=>hk b u (Sz _ e)) hp ok,rfl,q _ (I1.hok.fresh hp)⟩
end
section
variable{ds:List Dm.Dat}{xs:List V}{a:Addr}{H0:Hp}{K:gc}
theorem az.rev{H:Hp}(h:az H xs ds):az H xs.reverse ds.reverse:=by
 induction xs generalizing ds with
 |nil=>cases h;exact .nil
 |cons x xs ih=>
  cases h with
  |cons r rs=>rw[VO,VO];exact(ih rs).append (.cons r .nil)
theorem Lq(hq:Rd H0 a (.lst xs))(rs:az H0 xs ds):JW (Itv K a xs.length) H0 ds.reverse:=by intro H0' H s0 s1;have q:SqL K H a xs:=.inl (ak.rd s1 (ak.rd s0 hq));refine⟨fun i hi=>by rw[Uh,<- rs.length]at hi;exact hi,fun i d e=>?_⟩;obtain⟨v,hv,rv⟩:=rs.rev.get e;refine⟨⟨xs,v,q,rfl,hv⟩,fun x H' y=>?_⟩;obtain⟨e1,y⟩:=y;subst e1;have z:=y xs q;rw[hv]at z;cases z;exact⟨H0',aD.refl s1,rv.mono s0⟩
theorem uy:∀(ds:List Dm.Dat) (i:Nat),(Dm.j7 i ds).length=ds.length
 |[],_=>rfl
 |_::ds,i=>by simp[Dm.j7,uy ds]
theorem uz:∀(ds:List Dm.Dat) (i j:Nat) (d:Dm.Dat),(Dm.j7 i ds)[j]?=some d->∃x,ds[j]?=some x/\d=.tup [.int ((i+j:Nat):Int),x]
 |[],_,_,_,h=>by cases h
 |x::ds,i,0,d,h=>by cases h;exact⟨x,rfl,rfl⟩
 |x::ds,i,j+1,d,h=>by
  obtain⟨y,h1,h2⟩:=uz ds (i+1) j d h;refine⟨y,h1,?_⟩;rw[h2];have:i+1+j=i+(j+1):=by omega
  rw[this]
theorem G0(hq:Rd H0 a (.lst xs))(rs:az H0 xs ds):JW (Ite K a) H0 (Dm.j7 0 ds):=by intro H0' H s0 s1;have q:SqL K H a xs:=.inl (ak.rd s1 (ak.rd s0 hq));refine⟨fun i hi=>⟨xs,q,by rw[rs.length,<- uy ds 0];exact hi⟩,fun i d e=>?_⟩;obtain⟨d',hd,rfl⟩:=uz ds 0 i d e;obtain⟨v,hv,rv⟩:=rs.get hd;refine⟨⟨xs,v,q,hv⟩,fun x H' y=>?_⟩;obtain⟨p,v',hn,rfl,rfl,y⟩:=y;have z:=y xs q;rw[hv]at z;cases z;have g:=aD.Cs (o:=HO.tup [.int i,v]) s1 hn;refine⟨_,g,.tup ao (.cons ?_ (.cons ((rv.mono s0).mono g.s0) .nil))⟩;rw[VS];exact .int _
end
section
variable{σ:L2.St}{H:Hp}{R:It->Hp->Prop}
theorem Lr{K:gc}{f:Dm.FE}(h:tDI (Dm.AZ f) σ H R):I0 K (tD f) σ H R:=by
 obtain⟨H0,ρ,ys,ρ',st,e,k⟩:=h;unfold Dm.AZ at e;split at e
 ·cases e
 rename_i x ρ1 e1;split at e
 ·rename_i ds ρ2 e2;cases e;refine⟨H0,ρ,_,ρ1,st,e1,fun v H0' H' t r=>?_⟩;obtain⟨H1,t1,b1,r1,_,_⟩:=take1 t (ak.refl _) r e2;cases r1 with
  |lst q rs=>exact⟨_,_,rfl,.inl (ak.rd t1.st.same q),k _ H1 H' t1 (Lq q rs)⟩
 ·cases e
theorem OC{K:gc}{f:Dm.FE}(h:tDI (Dm.iEn f) σ H R):OA K (tD f) σ H R:=by
 obtain⟨H0,ρ,ys,ρ',st,e,k⟩:=h;unfold Dm.iEn at e;split at e
 ·cases e
 rename_i x ρ1 e1;split at e
 ·rename_i ds ρ2 e2;cases e;refine⟨H0,ρ,_,ρ1,st,e1,fun v H0' H' t r=>?_⟩;obtain⟨H1,t1,b1,r1,_,_⟩:=take1 t (ak.refl _) r e2;cases r1 with
  |lst q rs=>exact⟨_,rfl,⟨_,.inl (ak.rd t1.st.same q)⟩,k _ H1 H' t1 (G0 q rs)⟩
 ·cases e
end
theorem CU{K:gc}:UnD (fun x H Q=>∃a xs,x=.ref a/\SqL K H a xs/\∀q,H q=none->Q (.ref q) (upd H q (.lst xs.reverse))) Dm.nG:=by
 intro H0 H x dx z Q s rx e k;unfold Dm.nG at e;split at e
 ·cases e;obtain⟨a,us,rfl,qa,ra⟩:=bx s rx;exact⟨a,us,rfl,.inl qa,fun p hp=>k _ _ _ (aD.gb s hp) ⟨p,rfl,hp,s.free hp,_,ao,ra.rev⟩⟩
 ·cases e
theorem CV{H:Hp}:∀(n:Nat) ,az H ((SH n).map fun i=>V.int (i:Nat)) (Dm.ups 0 n):=by
 intro n;unfold Dm.ups;have:∀l:List Nat,az H (l.map fun i=>V.int (i:Nat)) (l.map fun i=>Dm.Dat.int (0+(i:Nat))):=fun l=>by
  induction l with
  |nil=>exact .nil
  |cons x l ih=>rw[Sq,Sq,Int.zero_add];exact .cons (.int _) ih
 exact this _
theorem G1:CallD (fun xs H Q=>∃j:Int,xs=[.int j]/\-(2 ^ 62)<=j/\j<=1000000/\∀q,H q=none->Q (.ref q) (upd H q (.lst ((SH j.toNat).map fun i=>V.int (i:Nat))))) Dm.qN:=by
 intro H0 H xs ds z Q s rx e k;unfold Dm.qN at e;split at e
 ·rename_i j;split at e
  ·rename_i hb;cases e;cases rx with
   |cons r rr=>cases rr;cases aA r;exact⟨j,rfl,by omega,hb.1,fun p hp=>k _ _ _ (aD.gb s hp) ⟨p,rfl,hp,s.free hp,_,ao,CV _⟩⟩
  ·cases e
 ·cases e
section
variable{X:Cx}{tg e a b c:Expr}{f fa fb fc:Dm.FE}{p pos p0 iB:Pos}{elts:List Expr}{x1:Nat}{tp:Pos}
theorem OD(hg:Gl X "reversed")(hm:X.mg "reversed" = none)(h:DE X e f)(hs:starEach [e] X.env=[(false,eval e X.env)]:=by rfl):DI X tg (.Call (.Name "reversed" p) [e] [] pos) (Dm.AZ f):=PI.weak (Lo hg hm h hs) fun _ _ _=>Lr
theorem Rl(hg:Gl X "enumerate")(hm:X.mg "enumerate" = none)(h:DE X e f)(hs:starEach [e] X.env=[(false,eval e X.env)]:=by rfl):DI X (.Tuple elts x1 tp) (.Call (.Name "enumerate" p) [e] [] pos) (Dm.iEn f):=PI.weak (GY hg hm h hs) fun _ _ _=>OC
theorem G3(hc:X.calm=true)(hgl:Gl X "list")(hml:X.mg "list" = none)(hg:Gl X "reversed")(hm:X.mg "reversed" = none)(h:DE X e f)(hs:starEach [e] X.env=[(false,eval e X.env)]:=by rfl)
  (hs0:starEach [.Call (.Name "reversed" p) [e] [] pos] X.env=[(false,eval (.Call (.Name "reversed" p) [e] [] pos) X.env)]:=by rfl) :
  DE X (.Call (.Name "list" p0) [.Call (.Name "reversed" p) [e] [] pos] [] iB) (Dm.e1 Dm.nG f):=PE.weak (CT hc hgl hml hg hm h hs hs0) fun _ _ _=>Q3 CU
theorem Ls(hc:X.calm=true)(hgl:Gl X "list")(hml:X.mg "list" = none)(hg:Gl X "range")(hm:X.mg "range" = none)(h:DA X [a] [fa])(hs:starEach [a] X.env=[(false,eval a X.env)]:=by rfl)
  (hs0:starEach [.Call (.Name "range" p) [a] [] pos] X.env=[(false,eval (.Call (.Name "range" p) [a] [] pos) X.env)]:=by rfl) :
  DE X (.Call (.Name "list" p0) [.Call (.Name "range" p) [a] [] pos] [] iB) (Dm.eB Dm.qN [fa]):=PE.weak (GZ hc hgl hml hg hm h hs hs0) fun _ _ _=>KS G1
end
end Br
namespace Dm
noncomputable def bB(i:Nat)(own:Nat)(bd:FB)(t:FT)(el:FE):FE:=fun ρ=>match ρ[i]? with
 | some (.ow (.lst ds))=>if ds.length≤SZ then (match d7 bd t el ds (ρ.set i .un++Sv own .un) [] with
  |none=>none
  |some (ys,ρ2)=>some (.new (.lst ys),(ρ2.take ρ.length).set i (.ow (.lst ds)))) else none
 |_=>cC (iS (eV i)) own bd t el ρ
end Dm
namespace Br
open PySem PySem.Spec PyProof.Rows L2
theorem uA{K:gc}{H0:Hp}{a:Addr}{xs:List V}{ds:List Dm.Dat}(rs:az H0 xs ds):JWa (Itl K a) H0 (some (a,.lst xs)) ds:=by intro H0' H s0 s1 hq;have hq:=hq _ rfl;have q:SqL K H a xs:=.inl (.inl hq);refine⟨fun i hi=>⟨xs,q,by rw[rs.length];exact hi⟩,fun i d e=>?_⟩;obtain⟨v,hv,rv⟩:=rs.get e;refine⟨⟨xs,v,q,hv⟩,fun x H' y=>?_⟩;obtain⟨e1,y⟩:=y;subst e1;have z:=y xs q;rw[hv]at z;cases z;exact⟨H0',aD.refl s1,rv.mono s0⟩
theorem G4{K:gc}{σ:L2.St}{H:Hp}{i own:Nat}{bd:Dm.FB}{g:TG}{t:Dm.FT}{el:Dm.FE}{is:List Nat}{Q:VK}(hb:BD is g bd)(hl:∀i∈is,σ.length<=i)(h:tD (Dm.bB i own bd t el) σ H Q) :
  tLC (fun σ H R=>mW K (tD (Dm.eV i)) σ H R\/BX K (tD (Dm.eV i)) σ H R) own g (tDT t) (tD el) σ H Q:=by
 obtain⟨H0,ρ,x,ρ',st,e,k⟩:=h;unfold Dm.bB at e;split at e
 ·rename_i ds eo;split at e
  case isFalse=>cases e
  rename_i hsz;split at e
  ·cases e
  rename_i ys ρ2 e2;cases e;refine .inl ⟨H0,ρ,.slot i,ρ,st,by unfold Dm.eV;rw[eo],fun v H0' H' t1 r=>?_⟩;obtain⟨a,qa,na,xs,ha,rs⟩:=t1.st.ow i _ eo;obtain⟨r1,_⟩:=r;rw[qa]at r1;cases r1;have nO:¬ai σ (ρ.set i .un) a:=fun z=>by obtain⟨j,d,hj,h1,h2⟩:=bE z;exact hj (t1.st.dis j i d _ a h1 eo h2 qa)
  have HY:i<ρ.length:=(Su.mp eo).1;refine⟨a,rfl,⟨xs,.inl (.inl ha)⟩,fun D hD=>ur hb hl (t1.st.mask i) (fun q e=>by cases e;exact⟨ha,na,nO⟩) (uA rs) hsz e2 (fun v H1 Hc t2 r2 hpa=>?_) D hD⟩;obtain⟨ha2,na2⟩:=hpa _ rfl;rw[Td]at t2 r2;have oo:∀b,ai σ ((ρ2.take ρ.length).set i (.ow (.lst ds))) b->b=a\/ai σ (ρ2.take ρ.length) b:=fun b ⟨j,d,h1,h2⟩=>by
   by_cases q:i=j
   ·subst q;rw[qa]at h2;cases h2;exact .inl rfl
   ·rw[eg q]at h1;exact .inr ⟨j,d,h1,h2⟩
  have om:∀b,ai σ (ρ.set i .un) b->ai σ ρ b:=fun b z=>by obtain⟨j,d,hj,h1,h2⟩:=bE z;exact⟨j,d,h1,h2⟩
  have oa:ai σ ρ a:=⟨i,_,eo,qa⟩
  have nO2:¬ai σ (ρ2.take ρ.length) a:=fun z=>nO (t2.own a z);have CW:(ρ2.take ρ.length).length=ρ.length:=by rw[<- t2.st.len,st.len]
  refine k v H1 Hc (t1.trans ⟨⟨t2.st.same,by rw[Td];exact t2.st.len,fun j d h=>?_,fun j d h=>?_,fun j j' d d' b h1 h2 h3 h4=>?_⟩,t2.stp.wide om,fun b z=>?_,fun j z=>?_⟩) ?_
  ·by_cases q:i=j
   ·subst q;rw[SR (by rw[CW];exact HY)]at h;cases h
   ·rw[eg q]at h;exact t2.st.sh j d h
  ·by_cases q:i=j
   ·subst q;rw[SR (by rw[CW];exact HY)]at h;cases h;exact⟨a,qa,na2,xs,ha2,rs.mono t2.stp.s0⟩
   ·rw[eg q]at h;exact t2.st.ow j d h
  ·by_cases q:i=j
   ·subst q;by_cases q':i=j'
    ·exact q'
    ·rw[eg q']at h2;rw[qa]at h3;cases h3;exact absurd ⟨j',d',h2,h4⟩ nO2
   ·rw[eg q]at h1;by_cases q':i=j'
    ·subst q';rw[qa]at h4;cases h4;exact absurd ⟨j,d,h1,h3⟩ nO2
    ·rw[eg q']at h2;exact t2.st.dis j j' d d' b h1 h2 h3 h4
  ·rcases oo b z with rfl | z
   ·exact oa
   ·exact om b (t2.own b z)
  ·trivial
  ·obtain⟨D',e',n',no',n0',w'⟩:=r2;refine⟨D',e',t1.stp.gone n',fun z=>?_,n0',w'⟩;rcases oo D' z with rfl | z
   ·rw[n']at ha;cases ha
   ·exact no' z
 ·have h2:=sd (fi:=Dm.iS (Dm.eV i)) hb hl ⟨H0,ρ,x,ρ',st,e,k⟩;exact Oz h2
section
variable{X:Cx}{PK tg:Expr}{PB:List Expr}{scope:Scope}{pos px:Pos}{bd:Dm.FB}{is:List Nat}{t:Dm.FT}{f:Dm.FE}{x:Str}
theorem i_M(i:Nat)(h:DE X (.Name x px) (Dm.eV i)):PI X tg (.Name x px) (fun σ H R=>mW X.K (tD (Dm.eV i)) σ H R\/BX X.K (tD (Dm.eV i)) σ H R):=PI.or (mE h) (BY h)
theorem fO(i:Nat)(nm own:List Str)(hg:TGc X nm scope own tg is bd)(hi:DE X (.Name x px) (Dm.eV i))(ht:∀cl C s H fp,DTs (aW X nm scope own cl C s H fp) PB t)(he:∀cl C s H fp,DE (aW X nm scope own cl C s H fp) PK f)
  (hc:X.calm=true:=by rfl) (hk:scope.kind=.function:=by rfl) (hS:nF X.env.scope X.N nm scope=true:=by rfl) (hl:(is.all fun i=>decide (X.N.length<=i))=true:=by rfl) (hs:∀y,foldedSetIterable (.Name x px) X.env y=pure y:=by intro _;rfl) :
  DE X (.ListComp PK [⟨tg,.Name x px,PB,0⟩] scope pos) (Dm.bB i own.length bd t f):=by
 obtain⟨g,h1,h2⟩:=hg.ex;intro uW s σ H Q I h;exact yZ hc (c_.of hS hk) (i_M i hi) h1 ht he hs uW s σ H Q I (G4 h2 (fun i hi=>by rw[I.len];exact ux hl i hi) h)
end
end Br
namespace Dm
noncomputable def gZ:List Dat->List Dat->List Dat
 |x::xs,y::ys=>.tup [x,y]::gZ xs ys
 |_,_=>[]
noncomputable def G5(a b:FE):FI:=fun ρ=>match eAs [a,b] ρ with
 | some (vs,ρ1)=>(match tks ρ1 vs with
  |some ([.lst xs,.lst ys],ρ2)=>some (gZ xs ys,ρ2)
  |_=>none)
 |none=>none
end Dm
namespace Br
open PySem PySem.Spec PyProof.Rows L2
theorem xG{X:Cx}{uW:List (Addr×Obj)}{σ:L2.St}{H:Hp}{s:Shared}{h':Heap}{t':Nat}{fp:List Addr}(I:Inv X uW σ H s)(hf:∀b∈fp,ql X uW H b)
  (k:∀b u,b∉fp->s.heap.get? b=some u->h'.get? b=some u):Inv X uW σ H { s with heap:=h',toks:=t' }:=by
 have nf:∀b u,H b=some u->b∉fp:=fun b u e z=>by rw[(hf b z).1]at e;cases e
 have nL:X.env.locals∉fp:=fun z=>(hf _ z).2.1 rfl;refine I.step (g':=s.gens) (d':=s.drawn) (ch:=fp) (fun b hb=>?_) (fun b u _ _ hc e _=>k b u hc e) (fun b u _ _ hc e _=>⟨u.slots,k b u hc e⟩)
  (fun b u _ e n=>n) (fun b u hc e=>⟨u,k b u hc e⟩)
  (fun b xs q=>q) (fun b u xs q=>q) (fun b ps q=>⟨#[],by rw[q];simp⟩) (fun m hm=>?_) (fun b u e=>?_) I.bare
 ·obtain⟨f0,f1,f2,f3,f4,f5⟩:=hf b hb;exact⟨f3,f1,f4,f5⟩
 ·obtain⟨o,es,ep,ho,r⟩:=hm;exact⟨o,es,ep,k _ o nL ho,r⟩
 ·refine(I.hok b u e).stay (fun c v hc q=>k c v ?_ q) (fun c q=>q) fun c xs q=>q;rcases hc with z | z
  ·rw[z];exact nf b u e
  ·exact nf c _ z
noncomputable def Itz(K:gc)(a b:Addr):It:=
 ⟨fun i H=>∃ xs ys x y,SqL K H a xs∧SqL K H b ys∧xs[i]?=some x∧ys[i]?=some y,
  fun i H r H'=>∃p x y,H p=none/\r=.ref p/\H'=upd H p (.tup [x,y])/\(∀xs,SqL K H a xs->xs[i]?=some x)/\∀ys,SqL K H b ys->ys[i]?=some y,
  fun i H=>∃xs ys,SqL K H a xs/\SqL K H b ys/\(xs.length<=i\/ys.length<=i)⟩
theorem gv{h:Heap}{a b:Addr}{o o':Obj}(ha:h.get? a=some o)(hb:h.get? b=some o')(n:o.cls≠o'.cls):a≠b:=fun z=>by subst z;rw[ha]at hb;cases hb;exact n rfl
structure su(z TI TO i1 i2:Addr):Prop where
 TIz:TI≠z
 TOz:TO≠z
 i1z:i1≠z
 i2z:i2≠z
 TITO:TI≠TO
 TIi1:TI≠i1
 TIi2:TI≠i2
 TOi1:TO≠i1
 TOi2:TO≠i2
 i12:i1≠i2
def CY(a b z TI TO i1 i2:Addr)(i:Nat)(h:Heap):Prop:=IsZip h z TI TO .none/\IsPair h TI (.ref i1) (.ref i2)/\(∃x y,IsPair h TO x y)/\h.IsListIter i1 a i/\h.IsListIter i2 b i
theorem uB{h:Heap}{a b z TI TO i1 i2:Addr}{i:Nat}{xs ys:Array Value}(F:su z TI TO i1 i2)(st:CY a b z TI TO i1 i2 i h)(ha:h.IsList a xs)(hb:h.IsList b ys):ZipApart z TI TO i1 i2 a b:=by
 obtain⟨s1,s2,⟨x,y,s3⟩,s4,s5⟩:=st;obtain⟨o4,e4,c4,_⟩:=s4;obtain⟨o5,e5,c5,_⟩:=s5;obtain⟨oa,ea,ca,_⟩:=ha;obtain⟨ob,eb,cb,_⟩:=hb;have d:∀{n m:String},n≠m->(UL n)≠(UL m):=fun q z=>q (by injection z);exact ⟨F.TIz,F.TOz,F.i1z,F.i2z,F.TITO,F.TIi1,F.TIi2,F.TOi1,F.TOi2,F.i12,
  gv ea s1 (by rw[ca];exact d (by decide)),gv ea s3 (by rw[ca];exact d (by decide)),gv ea e4 (by rw[ca,c4];exact d (by decide)),gv ea e5 (by rw[ca,c5];exact d (by decide)),
  gv eb s1 (by rw[cb];exact d (by decide)),gv eb s3 (by rw[cb];exact d (by decide)),gv eb e4 (by rw[cb,c4];exact d (by decide)),gv eb e5 (by rw[cb,c5];exact d (by decide))⟩
theorem CZ{P:Program}{w:World}{K:gc}{elts:List Expr}{x1}{tp:Pos}(a b z TI TO i1 i2:Addr)(F:su z TI TO i1 i2):Turn P w K (.Tuple elts x1 tp) (Itz K a b) [z,TI,TO,i1,i2] z (CY a b z TI TO i1 i2) where
 mem:=by simp
 obj:=fun i h st c hc=>by
  obtain⟨s1,s2,⟨x,y,s3⟩,⟨o4,e4,c4,d4⟩,⟨o5,e5,c5,d5⟩⟩:=st;simp only[SD,TV,or_false]at hc;rcases hc with rfl | rfl | rfl | rfl | rfl
  ·exact⟨_,s1,fun v q=>by have q':V6 _=VA v:=q;cases q'⟩
  ·exact⟨_,s2,fun v q=>by have q':Data.seq _ _=VA v:=q;cases q'⟩
  ·exact⟨_,s3,fun v q=>by have q':Data.seq _ _=VA v:=q;cases q'⟩
  ·exact⟨o4,e4,fun v q=>by rw[d4]at q;cases q⟩
  ·exact⟨o5,e5,fun v q=>by rw[d5]at q;cases q⟩
 keep:=fun i h h' st k=>by obtain⟨s1,s2,⟨x,y,s3⟩,s4,s5⟩:=st;exact⟨k z (by simp) _ s1,k TI (by simp) _ s2,⟨x,y,k TO (by simp) _ s3⟩,s4.at fun o q=>k i1 (by simp) o q,s5.at fun o q=>k i2 (by simp) o q⟩
 item:=by
  intro X hP hw hK hc i uW s σ H E I hf st hg;subst hP hw hK;obtain⟨xs,ys,x,y,hq,hq',hx,hy⟩:=hg;obtain⟨its,rv,p,hz⟩:=I.list hq;obtain⟨its',rv',p',hz'⟩:=I.list hq';obtain⟨u,hu,ru⟩:=rv.get hx;obtain⟨u',hu',ru'⟩:=rv'.get hy;have D:=uB F st p.isList p'.isList;obtain⟨s1,s2,⟨o1,o2,s3⟩,s4,s5⟩:=st;have lt:∀{c o},s.heap.get? c=some o->c<s.heap.objs.size:=fun q=>SI q;have l1:=lt s1;have l2:=lt s2;have l3:=lt s3;have l4:i1<s.heap.objs.size:=by obtain⟨_,q,_⟩:=s4;exact lt q
  have l5:i2<s.heap.objs.size:=by obtain⟨_,q,_⟩:=s5;exact lt q
  refine wpAny_pyNext_zip_item D s1 s2 s3 s4 s5 p.isList p'.isList (x:=u) (y:=u') (by simpa using hu) (by simpa using hu') fun h1 a1 a2 a3 a4 a5 a6 hk=>?_;refine⟨_,rfl,wpAny_letOwnedTupleGo_zip a1 fun h2 z2 hs2=>?_⟩;have ht2:h2.get? s.heap.objs.size=some { cls:=.type "tuple",data:=.seq #[u,u'] }:=(hs2.2 _ (Uq l1)).trans a5;have k2:∀c o,c∉[z,TI,TO,i1,i2]->s.heap.get? c=some o->h2.get? c=some o:=fun c o hc q=>by simp only[SD,TV,or_false,not_or]at hc;exact(hs2.2 c hc.1).trans (hk c o hc.1 hc.2.2.1 hc.2.2.2.1 hc.2.2.2.2 q)
  have hn:H s.heap.objs.size=none:=I.hok.fresh (SA _);have I2:Inv X uW σ (upd H s.heap.objs.size (.tup [x,y])) { s with heap:=h2,toks:=s.toks }:=
   qO I hf k2 (SA _) ⟨by simp[sizeLine],[u,u'],.cons ru (.cons ru' .nil),_,ht2,rfl,_,rfl⟩
  refine⟨.ref s.heap.objs.size,_,I2,rfl,⟨_,x,y,hn,rfl,rfl,fun vs hv=>by rw[I.fY hv hq];exact hx,fun vs hv=>by rw[I.fY hv hq'];exact hy⟩,⟨z2,?_,⟨_,_,hs2.extBut _ _ D.TOz a2⟩,?_,?_⟩,fun c hc=>?_⟩
  ·exact hs2.extBut _ _ D.TIz (hk TI _ D.TIz D.TITO D.TIi1 D.TIi2 s2)
  ·exact a3.extBut hs2.extBut D.i1z
  ·exact a4.extBut hs2.extBut D.i2z
  ·have hc1:c≠s.heap.objs.size:=fun q=>by
    simp only[SD,TV,or_false]at hc;rcases hc with r | r | r | r | r
    ·subst r;rw[q]at l1;exact TU _ l1
    ·subst r;rw[q]at l2;exact TU _ l2
    ·subst r;rw[q]at l3;exact TU _ l3
    ·subst r;rw[q]at l4;exact TU _ l4
    ·subst r;rw[q]at l5;exact TU _ l5
   rw[aq hc1];exact(hf c hc).1
 done:=by
  intro X hP hw hK hc i uW s σ H E I hf st hg;subst hP hw hK;obtain⟨xs,ys,hq,hq',hx⟩:=hg;obtain⟨its,rv,p,hz⟩:=I.list hq;obtain⟨its',rv',p',hz'⟩:=I.list hq';have hl:=rv.length;have hl':=rv'.length;have D:=uB F st p.isList p'.isList;obtain⟨s1,s2,⟨o1,o2,s3⟩,s4,s5⟩:=st;refine wpAny_pyNext_zip_end (I.ok.hd hc) D s1 s2 s3 s4 s5 p.isList p'.isList ?_ fun h' hk=>⟨rfl,xG (t':=s.toks) I hf fun c o hc q=>?_⟩
  ·rcases hx with hx | hx
   ·exact .inl (by simp;omega)
   ·exact .inr (by simp;omega)
  ·simp only[SD,TV,or_false,not_or]at hc;exact hk c o hc.1 hc.2.2.1 hc.2.2.2.1 hc.2.2.2.2 q
 self:=fun A i s Q E st h=>wpAny_pyIter_zip st.1 h
def I_(K:gc)(ta:TA):TI:=fun σ H R=>ta σ H fun vs H1=>∃a b,vs=[.ref a,.ref b]/\(∃xs,SqL K H1 a xs)/\(∃ys,SqL K H1 b ys)/\R (Itz K a b) H1
section
variable{X:Cx}{l l':Expr}{ta:TA}{p pos:Pos}{elts:List Expr}{x1:Nat}{tp:Pos}
theorem Lu(hg:Gl X "zip")(hm:X.mg "zip" = none)(ha:PA X [l,l'] ta)(hs:starEach [l,l'] X.env=(false,eval l X.env)::starEach [l'] X.env:=by rfl)(hs2:(backTo pos (starEach [l'] X.env)).any (·.1)=false:=by rfl) :
  PI X (.Tuple elts x1 tp) (.Call (.Name "zip" p) [l,l'] [] pos) (I_ X.K ta):=by
 intro uW s σ H R I h;refine Call_ (cY I hg hm boot_zip (Tn (thn (ha pos uW s σ H _ I h) fun us s1 ⟨vs,H1,I1,r1,q1⟩=>?_) hs hs2));obtain⟨a,b,e,⟨xs,hq⟩,⟨ys,hq'⟩,q⟩:=q1;subst e;obtain⟨v1,v2,rfl,r,r'⟩:=vals2 r1;cases r;cases r';obtain⟨its,rv,pl,hz⟩:=I1.list hq;obtain⟨its',rv',pl',hz'⟩:=I1.list hq';refine call_zip_2 pl.isList pl'.isList fun h' e1 e2 e3 e4 e5 hsz k=>?_;have I2:Inv X uW σ H1 { s1 with heap:=h' }:=I1.kept (t':=s1.toks) k;have F:su (s1.heap.objs.size+4) (s1.heap.objs.size+2) (s1.heap.objs.size+3) s1.heap.objs.size (s1.heap.objs.size+1):=by constructor<;>first | exact S7 (by omega) | exact Uq (by omega)
 have T:=CZ (P:=X.prog) (w:=X.w) (K:=X.K) (elts:=elts) (x1:=x1) (tp:=tp) a b _ _ _ _ _ F;have st:CY a b (s1.heap.objs.size+4) (s1.heap.objs.size+2) (s1.heap.objs.size+3) s1.heap.objs.size (s1.heap.objs.size+1) 0 h':=⟨e1,e2,⟨_,_,e3⟩,e4,e5⟩
 refine T.self X.A 0 { s1 with heap:=h' } _ X.xe st ?_;refine⟨s1.heap.objs.size+4,_,_,_,H1,rfl,I2,T,st,fun c hc=>?_,q⟩;have:s1.heap.objs.size<=c:=by simp only[SD,TV,or_false]at hc;rcases hc with r | r | r | r | r<;>(rw[r];first | exact Nat.le_add_right _ _ | exact SA _)
 exact I1.wW this (I1.hok.fresh this)
end
theorem zf:∀(xs ys:List Dm.Dat),(Dm.gZ xs ys).length=min xs.length ys.length
 |[],_=>by simp[Dm.gZ]
 |_::_,[]=>by simp[Dm.gZ]
 |x::xs,y::ys=>by simp[Dm.gZ,zf xs ys]
theorem zip_get:∀(xs ys:List Dm.Dat) (j:Nat) (d:Dm.Dat),(Dm.gZ xs ys)[j]?=some d->∃x y,xs[j]?=some x/\ys[j]?=some y/\d=.tup [x,y]
 |[],_,_,_,h=>by simp[Dm.gZ]at h
 |_::_,[],_,_,h=>by simp[Dm.gZ]at h
 |x::xs,y::ys,0,d,h=>by cases h;exact⟨x,y,rfl,rfl,rfl⟩
 |x::xs,y::ys,j+1,d,h=>zip_get xs ys j d h
theorem Lv{K:gc}{H0:Hp}{a b:Addr}{xs ys:List V}{ds es:List Dm.Dat}(hq:Rd H0 a (.lst xs))(rs:az H0 xs ds)(hq':Rd H0 b (.lst ys))(rs':az H0 ys es):JW (Itz K a b) H0 (Dm.gZ ds es):=by
 intro H0' H s0 s1;have q:SqL K H a xs:=.inl (ak.rd s1 (ak.rd s0 hq));have q':SqL K H b ys:=.inl (ak.rd s1 (ak.rd s0 hq'));refine⟨fun i hi=>⟨xs,ys,q,q',?_⟩,fun i d e=>?_⟩
 ·rw[zf]at hi;have:=rs.length;have:=rs'.length;omega
 obtain⟨x,y,hx,hy,rfl⟩:=zip_get ds es i d e;obtain⟨v,hv,rv⟩:=rs.get hx;obtain⟨v',hv',rv'⟩:=rs'.get hy;refine⟨⟨xs,ys,v,v',q,q',hv,hv'⟩,fun r H' z=>?_⟩;obtain⟨p,u,u',hn,rfl,rfl,z1,z2⟩:=z;have w1:=z1 xs q;have w2:=z2 ys q';rw[hv]at w1;rw[hv']at w2;cases w1;cases w2;have g:=aD.Cs (o:=HO.tup [v,v']) s1 hn;exact⟨_,g,.tup ao (.cons ((rv.mono s0).mono g.s0) (.cons ((rv'.mono s0).mono g.s0) .nil))⟩
section
variable{σ:L2.St}{H:Hp}{R:It->Hp->Prop}
theorem Lw{K:gc}{f g:Dm.FE}(h:tDI (Dm.G5 f g) σ H R):I_ K (tDA [f,g]) σ H R:=by
 obtain⟨H0,ρ,ys,ρ',st,e,k⟩:=h;unfold Dm.G5 at e;split at e
 ·rename_i vs ρ1 e1;split at e
  ·rename_i xs zs ρ2 e2;cases e;refine⟨H0,ρ,vs,ρ1,st,e1,fun us H0' H' t r=>?_⟩;obtain⟨H1,t1,b1,r1⟩:=takes t (ak.refl _) r e2;cases r1 with
   |cons q1 rr=>
    cases rr with
    |cons q2 rr=>
     cases rr;cases q1 with
     |lst q rs=>
      cases q2 with
      |lst q' rs'=>exact⟨_,_,rfl,⟨_,.inl (ak.rd t1.st.same q)⟩,⟨_,.inl (ak.rd t1.st.same q')⟩,k _ H1 H' t1 (Lv q rs q' rs')⟩
  ·cases e
 ·cases e
end
section
variable{X:Cx}{a b:Expr}{fa fb:Dm.FE}{p pos:Pos}{elts:List Expr}{x1:Nat}{tp:Pos}
theorem OE(hg:Gl X "zip")(hm:X.mg "zip" = none)(ha:DA X [a,b] [fa,fb])(hs:starEach [a,b] X.env=(false,eval a X.env)::starEach [b] X.env:=by rfl)(hs2:(backTo pos (starEach [b] X.env)).any (·.1)=false:=by rfl) :
  DI X (.Tuple elts x1 tp) (.Call (.Name "zip" p) [a,b] [] pos) (Dm.G5 fa fb):=PI.weak (Lu hg hm ha hs hs2) fun _ _ _=>Lw
end
end Br
namespace Dm
noncomputable def fnM(n m:Nat)(body:FS)(ds:List Dat):Option (RV×Dat):=if ds.length=n then (match ds with
 | d::r=>(match body (Cell.ow d::(r.map Cell.sh++Sv m .un)) with
  | some (.ret z ρ')=>(match ρ'[0]? with
   |some (Cell.ow d')=>some (z,d')
   |_=>none)
  | some (.nx ρ')=>(match ρ'[0]? with
   |some (Cell.ow d')=>some (.val .non,d')
   |_=>none)
  |_=>none)
 |[]=>none) else none
noncomputable def flat:Dat->Bool
 |.tup xs=>xs.all fun x=>!dg x
 |d=>!dg d
noncomputable def xH:Dat->Bool
 |.lst xs=>xs.all fun x=>!dg x
 |_=>false
noncomputable def eFm(f:List Dat->Option (RV×Dat))(j:Nat)(as:List FE):FE:=fun ρ=>match ρ[j]? with
 | some (.ow _)=>(match eAs as ρ with
  |none=>none
  | some (xs,ρ1)=>(match ρ1[j]? with
   | some (.ow d1)=>(match tks ρ1 xs with
    |none=>none
    | some (ds,ρ2)=>(match ρ2[j]? with
     | some (.ow d)=>(match f (d::ds) with
      |none=>none
      |some (v,d')=>if flat v.dat&&xH d' then some (v.bD,ρ1.set j (.ow d')) else some (v.bD,ρ2.set j (.ow d')))
     |_=>none))
   |_=>none))
 |_=>none
end Dm
namespace Br
open PySem PySem.Spec PyProof.Rows L2
section
variable{ρ:Dm.Env}{σ:L2.St}{a:Addr}
def spM(f:List Dm.Dat->Option (Dm.RV×Dm.Dat)):Sp:=fun vs H Q _=>∃H0 a us d ds z d',vs=V.ref a::us/\ak H0 H/\H0 a=none/\Own H0 H a d/\az H0 us ds/\f (d::ds)=some (z,d') /\
 ∀v H0' H',Stp (fun b=>b=a) H0 H H0' H'->ak H0' H'->H0' a=none->Own H0' H' a d'->um H H0' H' v z->Q v H'
theorem gP{n m:Nat}{body:Dm.FS}{vs:List V}{H:Hp}{Q:VK}{E:XK}(h:spM (Dm.fnM n m body) vs H Q E):vs.length=n:=by
 obtain⟨H0,a,us,d,ds,z,d',e,_,_,_,rs,ef,_⟩:=h;unfold Dm.fnM at ef;split at ef
 ·rename_i hl;rw[e,S1,rs.length]
  simpa using hl
 ·cases ef
theorem av.kU{H0 H:Hp}{j:Nat}{d:Dm.Dat}(st:av H0 H σ ρ)(q:σ[j]?=some (some (V.ref a)))(no:¬ai σ ρ a)(n0:H0 a=none)(w:Own H0 H a d):av H0 H σ (ρ.set j (.ow d)):=by
 have:=st.Cu (i:=j) no n0 w;have e:σ.set j (some (V.ref a))=σ:=by
  apply UQ;intro i;by_cases h:j=i
  ·subst h;have hl:j<σ.length:=(Su.mp q).1;rw[SR hl,q]
  ·rw[eg h]
 rw[e]at this;exact this
theorem av.off{H0 H H0' H':Hp}(st:av H0 H σ ρ)(s0:ak H0 H0')(ss:ak H0' H')(no:¬ai σ ρ a)(s1:∀b o,H b=some o->b≠a->H' b=some o)(s2:∀(i:Nat) (d:Dm.Dat) (b:Addr),ρ[i]?=some (Dm.Cell.ow d)->σ[i]?=some (some (V.ref b))->H0' b=none):av H0' H' σ ρ where
 same:=ss
 len:=st.len
 sh:=fun i d e=>by obtain⟨v,q,r⟩:=st.sh i d e;exact⟨v,q,r.mono s0⟩
 ow:=fun i d e=>by obtain⟨b,q,n,w⟩:=st.ow i d e;obtain⟨o,z⟩:=w.some;have nb:b≠a:=fun y=>no ⟨i,d,e,y▸q⟩;exact⟨b,q,s2 i d b e q,w.mono s0 ((s1 b o z nb).trans z.symm)⟩
 dis:=st.dis
theorem fk{H0 H1:Hp}:∀{xs:List V} {ds:List Dm.Dat},az H0 xs ds->(ds.all fun x=>!Dm.dg x)=true->az H1 xs ds
 |_,_,.nil,_=>.nil
 |_,_,.cons r rs,h=>by rw[VJ,SQ]at h;exact .cons (Rep.plain r (by simpa using h.1)) (fk rs h.2)
end
section
variable{σ:L2.St}{H:Hp}{Q:VK}
theorem G6{f:List Dm.Dat->Option (Dm.RV×Dm.Dat)}{j:Nat}{fs:List Dm.FE}{E:XK}(h:tD (Dm.eFm f j fs) σ H Q):jN (spM f) [] E (tDA (Dm.eV j::fs)) σ H Q:=by
 obtain⟨H0,ρ,x,ρ',st,e,k⟩:=h;unfold Dm.eFm at e;split at e
 case h_2=>cases e
 rename_i d0 h0;split at e
 ·cases e
 rename_i xs ρ1 e1;split at e
 case h_2=>cases e
 rename_i d1 h1;split at e
 ·cases e
 rename_i ds ρ2 e2;split at e
 case h_2=>cases e
 rename_i d h2;split at e
 ·cases e
 rename_i z d' fz;have ea:Dm.eAs (Dm.eV j::fs) ρ=some (.slot j::xs,ρ1):=by unfold Dm.eAs;rw[show Dm.eV j ρ=some (.slot j,ρ) from by unfold Dm.eV;rw[h0]];dsimp only;rw[e1]
 refine⟨H0,ρ,.slot j::xs,ρ1,st,ea,fun vs H1 Hb t1 r1=>?_⟩;dsimp only;rw[Tu];cases r1 with
 |cons r0 rr=>
  obtain⟨H2,t2,b2,r2⟩:=takes t1 (ak.refl _) rr e2;obtain⟨a,qa,na,wa⟩:=t2.st.ow j d h2;obtain⟨q0,_⟩:=r0;rw[qa]at q0;cases q0;obtain⟨a1,qa1,na1,wa1⟩:=t1.st.ow j d1 h1;rw[qa]at qa1;cases qa1;obtain⟨oa,ha⟩:=wa.some;have hl2:j<ρ2.length:=(Su.mp h2).1;have hl1:j<ρ1.length:=(Su.mp h1).1;have oa0:ai σ ρ a:=t1.own a ⟨j,d1,h1,qa⟩;refine⟨H2,a,_,d,ds,z,d',rfl,t2.st.same,na,wa,r2,fz,fun v H3 Hd s3 ss n3 w3 r3=>?_⟩;have no2:¬ai σ (ρ2.set j .un) a:=fun y=>by obtain⟨i,d4,hi,y1,y2⟩:=bE y;exact hi (t2.st.dis i j d4 d a y1 h2 y2 qa)
  have no1:¬ai σ (ρ1.set j .un) a:=fun y=>by obtain⟨i,d4,hi,y1,y2⟩:=bE y;exact hi (t1.st.dis i j d4 d1 a y1 h1 y2 qa)
  split at e
  ·rename_i fl;cases e;rw[SQ]at fl;obtain⟨f1,f2⟩:=fl;have wp:∀H',Own H' Hd a d':=fun H'=>by
    cases d' with
    |lst ys=>obtain⟨us,y1,y2⟩:=w3;exact⟨us,y1,fk y2 f2⟩
    |_=>cases f2
   have PF:∀H1':Hp,ak H1 H1'->ak H1' Hd->(∀b o,H1' b=some o->H1 b=some o\/((∃us,o=.tup us)/\H3 b=some o))->gf H H1' Hd σ (ρ1.set j (.ow d')) v z.bD->Q v Hd:=fun H1' m1 m2 m3 rv=>by
    have hd3:∀b,H1' b≠none->b≠a:=fun b hb y=>by
     subst y;cases y2:H1' b with
     |none=>exact hb y2
     |some o=>
      rcases m3 b o y2 with y3 | ⟨_,y3⟩
      ·rw[na1]at y3;cases y3
      ·rw[n3]at y3;cases y3
    have n1':H1' a=none:=by
     cases y:H1' a with
     |none=>rfl
     |some o=>exact absurd rfl (hd3 a (by rw[y];exact fun q=>nomatch q))
    have sm:av H1' Hd σ (ρ1.set j .un):=by
     refine(t1.st.mask j).off m1 m2 no1 (fun b o y nb=>s3.s1 b o y nb) fun i d4 b y1 y2=>?_;obtain⟨b',q',nb',w'⟩:=(t1.st.mask j).ow i d4 y1;rw[y2]at q';cases q';cases y:H1' b with
     |none=>rfl
     |some o=>
      rcases m3 b o y with y3 | ⟨⟨us,y4⟩,y3⟩
      ·rw[nb']at y3;cases y3
      ·subst y4;have nb:b≠a:=hd3 b (by rw[y];exact fun q=>nomatch q);cases d4 with
       |lst _=>obtain⟨ws,z1,_⟩:=w';have z2:=s3.s1 b _ z1 nb;rw[ss _ _ y3]at z2;cases z2
       |dct _ _=>obtain⟨ws,z1,_⟩:=w';have z2:=s3.s1 b _ z1 nb;rw[ss _ _ y3]at z2;cases z2
       |_=>exact Tt w'
    have sf:av H1' Hd σ (ρ1.set j (.ow d')):=by have:=sm.kU qa no1 n1' (wp H1');rw[VT]at this;exact this
    refine k v H1' Hd ⟨sf,⟨t1.stp.s0.trans m1,fun b o y nb=>?_,fun b o y=>?_,fun b o y=>?_⟩,fun b y=>?_,fun i y=>?_⟩ rv
    ·have y1:=t1.stp.s1 b o y nb;exact s3.s1 b o y1 fun q=>nb (by rw[q];exact oa0)
    ·rcases m3 b o y with y3 | ⟨_,y3⟩
     ·exact t1.stp.s2 b o y3
     ·rcases s3.s2 b o y3 with y4 | y4 | y4
      ·exact .inl (t1.stp.gone y4)
      ·exact t2.stp.s2 b o y4
      ·subst y4;rw[n3]at y3;cases y3
    ·obtain⟨o',y1⟩:=t1.stp.s3 b o y;exact s3.s3 b o' y1
    ·obtain⟨i,d4,y1,y2⟩:=y;by_cases hi:j=i
     ·subst hi;rw[qa]at y2;cases y2;exact oa0
     ·rw[eg hi]at y1;exact t1.own b ⟨i,d4,y1,y2⟩
    ·trivial
   have m0:ak H1 Hd:=fun b o y=>s3.s1 b o (t1.st.same _ _ y) fun q=>by rw[q,na1]at y;cases y
   cases z with
   |new d4=>
    obtain⟨_,_,_,_,w⟩:=r3;cases d4 with
    |lst _=>cases f1
    |dct _ _=>cases f1
    |_=>exact Tt w
   |val d4=>
    have r3':Rep H3 v d4:=r3;cases d4 with
    |tup es=>
     cases r3' with
     |tup q rs=>
      rename_i a2 us;have rp:az H1 us es:=fk rs f1;refine PF (upd H1 a2 (.tup us)) (fun b o y=>?_) (fun b o y=>?_) (fun b o y=>?_) (.tup ao (fk rs f1))
      ·by_cases hb:b=a2
       ·subst hb;have:=s3.s0 _ _ (b2 _ _ y);rw[q]at this;rw[ao,this]
       ·rw[aq hb];exact y
      ·by_cases hb:b=a2
       ·subst hb;rw[ao]at y;cases y;exact ss _ _ q
       ·rw[aq hb]at y;exact m0 _ _ y
      ·by_cases hb:b=a2
       ·subst hb;rw[ao]at y;cases y;exact .inr ⟨⟨us,rfl⟩,q⟩
       ·rw[aq hb]at y;exact .inl y
    |lst _=>cases f1
    |dct _ _=>cases f1
    |exc _=>cases f1
    |fn _=>exact PF H1 (ak.refl _) m0 (fun b o y=>.inl y) (Rep.plain r3' rfl)
    |non=>exact PF H1 (ak.refl _) m0 (fun b o y=>.inl y) (Rep.plain r3' rfl)
    |bl _=>exact PF H1 (ak.refl _) m0 (fun b o y=>.inl y) (Rep.plain r3' rfl)
    |int _=>exact PF H1 (ak.refl _) m0 (fun b o y=>.inl y) (Rep.plain r3' rfl)
    |str _=>exact PF H1 (ak.refl _) m0 (fun b o y=>.inl y) (Rep.plain r3' rfl)
  ·cases e;have sm:av H3 Hd σ (ρ2.set j .un):=by
    refine(t2.st.mask j).off s3.s0 ss no2 (fun b o y nb=>s3.s1 b o y nb) fun i d4 b y1 y2=>?_;obtain⟨b',q',nb',w'⟩:=(t2.st.mask j).ow i d4 y1;rw[y2]at q';cases q';obtain⟨ob,hob⟩:=w'.some;cases y:H3 b with
    |none=>rfl
    |some o=>
     rcases s3.s2 b o y with y3 | y3 | y3
     ·rw[hob]at y3;cases y3
     ·rw[nb']at y3;cases y3
     ·exact absurd ⟨i,d4,y1,y3▸y2⟩ no2
   have sf:av H3 Hd σ (ρ2.set j (.ow d')):=by have:=sm.kU qa no2 n3 w3;rw[VT]at this;exact this
   have of:∀b,ai σ (ρ2.set j (.ow d')) b->b=a\/ai σ ρ2 b:=fun b ⟨i,d4,y1,y2⟩=>by
    by_cases hi:j=i
    ·subst hi;rw[qa]at y2;cases y2;exact .inl rfl
    ·rw[eg hi]at y1;exact .inr ⟨i,d4,y1,y2⟩
   refine k v H3 Hd ⟨sf,t2.stp.trans s3 (fun b y=>.inl (y▸oa0)),fun b y=>?_,fun i y=>?_⟩ ?_
   ·rcases of b y with y | y
    ·exact y▸oa0
    ·exact t2.own b y
   ·trivial
   ·cases z with
    |val d4=>exact r3
    |new d4=>
     obtain⟨b,y0,y1,y2,y3⟩:=r3;refine⟨b,y0,t2.stp.gone y1,fun y=>?_,y2,y3⟩;rcases of b y with y | y
     ·subst y;rw[ha]at y1;cases y1
     ·exact t2.st.bh y1 y
end
theorem aX{X:Cx}{es:List Expr}{p pos px:Pos}{k:Nat}{F:Addr}{fd:FuncData}{ps:List Str}{g:List Dm.Dat->Option (Dm.RV×Dm.Dat)}{x y:Str}{j:Nat}{fs:List Dm.FE}(G:aP X.prog X.w X.K X.mg X.base CX0 k F fd ps (spM g))(hr:bq k X.A)(hg:Gl X x)(hm:X.mg x=some (.ref F))(hk:TY X.K (.ref F)=true)(hb:Binds X.K fd ps [])
  (ha:DA X (.Name y px::es) (Dm.eV j::fs)) (RS:(x == ("__debug__" : Str))=false:=by decide) (he:starEach (.Name y px::es) X.env=(false,eval (.Name y px) X.env)::starEach es X.env:=by rfl) (HL:(backTo pos (starEach es X.env)).any (·.1)=false:=by rfl) :
  DE X (.Call (.Name x p) (.Name y px::es) [] pos) (Dm.eFm g j fs):=PE.weak (dY G hr hg hm hk hb .nil (lG (X:=X)) ha RS he HL) fun _ _ _=>G6
theorem uC{N:List Str}{n m:Nat}{body:Dm.FS}{vs:List V}{H:Hp}{Q:VK}{E:XK}(hm:N.length=n+m)(h:spM (Dm.fnM n m body) vs H Q E) :
  tDS body { nx:=fun _ H'=>Q .non H',rt:=Q } (start N vs) H:=by
 have hvn:=gP h;obtain⟨H0,a,us,d,ds,z,d',e,s,na,wa,rs,ef,k⟩:=h;subst e;have hl:=rs.length;rw[S1]at hvn;have e0:(start N (V.ref a::us))[0]?=some (some (V.ref a)):=rfl;have get:∀{i:Nat} {c:Dm.Cell},(Dm.Cell.ow d::(ds.map Dm.Cell.sh++Sv m .un))[i]?=some c->(i=0/\c=.ow d)\/(∃i' d4,i=i'+1/\ds[i']?=some d4/\c=.sh d4)\/c=.un:=fun {i c} y=>by
  cases i with
  |zero=>cases y;exact .inl ⟨rfl,rfl⟩
  |succ i=>
   rw[Ve]at y;by_cases hi:i<ds.length
   ·rw[SM (by simpa using hi),SS,SK hi]at y;cases y;exact .inr (.inl ⟨i,ds[i],rfl,SK hi,rfl⟩)
   ·rw[Tc (by simpa using hi),Tz]at y;split at y
    ·cases y;exact .inr (.inr rfl)
    ·cases y
 have ow0:∀{i:Nat} {d4:Dm.Dat},(Dm.Cell.ow d::(ds.map Dm.Cell.sh++Sv m .un))[i]?=some (.ow d4)->i=0/\d4=d:=fun {i d4} y=>by
  rcases get y with⟨y1,y2⟩ | ⟨_,_,_,_,y2⟩ | y2
  ·cases y2;exact⟨y1,rfl⟩
  ·cases y2
  ·cases y2
 have oa:∀b,ai (start N (V.ref a::us)) (Dm.Cell.ow d::(ds.map Dm.Cell.sh++Sv m .un)) b->b=a:=fun b ⟨i,d4,y1,y2⟩=>by obtain⟨y3,_⟩:=ow0 y1;subst y3;rw[e0]at y2;cases y2;rfl
 have st:av H0 H (start N (V.ref a::us)) (Dm.Cell.ow d::(ds.map Dm.Cell.sh++Sv m .un)):=by
  refine⟨s,?_,fun i d4 y=>?_,fun i d4 y=>?_,fun i i' d4 d5 b y1 y2 _ _=>(ow0 y1).1.trans (ow0 y2).1.symm⟩
  ·unfold L2.start;simp only[SJ,Ss,Ut,S1];omega
  ·rcases get y with⟨_,y2⟩ | ⟨i',d5,y1,y2,y3⟩ | y2
   ·cases y2
   ·cases y3;subst y1;obtain⟨v,hv,r⟩:=rs.get y2;refine⟨v,?_,r⟩;have hi:i'<us.length:=(Su.mp hv).1;unfold L2.start;rw[SM (by simp;omega),SS,Ve,hv];rfl
   ·cases y2
  ·obtain⟨y1,y2⟩:=ow0 y;subst y1 y2;exact⟨a,e0,na,wa⟩
 have PF:∀{σ':L2.St} {ρ':Dm.Env} {H0' H':Hp},SSt (start N (V.ref a::us)) (Dm.Cell.ow d::(ds.map Dm.Cell.sh++Sv m .un)) H0 H σ' ρ' H0' H'->ρ'[0]?=some (.ow d')->Stp (fun b=>b=a) H0 H H0' H'/\H0' a=none/\Own H0' H' a d'/\ai σ' ρ' a:=fun {σ' ρ' H0' H'} t y=>by obtain⟨a',q',n',w'⟩:=t.st.ow 0 d' y;have fx:=t.fx;rw[e0,q']at fx;cases fx;exact⟨t.stp.wide fun b z=>oa b z,n',w',0,d',y,q'⟩
 unfold Dm.fnM at ef;split at ef
 case isFalse=>cases ef
 dsimp only at ef;split at ef
 ·rename_i z' ρ' e1;split at ef
  case h_2=>cases ef
  rename_i d4 y;cases ef;refine⟨H0,_,_,st,e1,fun σ' v H0' H' t r no=>?_⟩;obtain⟨f1,f2,f3,f4⟩:=PF t y;refine k v H0' H' f1 t.st.same f2 f3 ?_;cases z with
  |val d5=>exact r
  |new d5=>
   obtain⟨b,y0,y1,y2,y3⟩:=r;refine⟨b,y0,?_,y2,y3⟩;rcases y1 with y1 | y1
   ·exact y1
   ·exact absurd f4 (oa b y1▸no d5 b rfl y0)
 ·rename_i ρ' e1;split at ef
  case h_2=>cases ef
  rename_i d4 y;cases ef;refine⟨H0,_,_,st,e1,fun σ' H0' H' t=>?_⟩;obtain⟨f1,f2,f3,f4⟩:=PF t y;exact k _ H0' H' f1 t.st.same f2 f3 .non
 ·cases ef
end Br
namespace Dm
noncomputable def bA:List Int->List Dat->Int->Option Dat
 |k::ks,v::vs,i=>if k=i then some v else bA ks vs i
 |_,_,_=>none
noncomputable def zg:List Int->List Dat->Int->Dat->List Dat
 |k::ks,v::vs,i,d=>(if k=i then d else v)::zg ks vs i d
 |_,_,_,_=>[]
noncomputable def j8(ks:List Int)(i:Int):List Int:=if (ks.any fun k=>decide (k=i))=true then ks else ks++[i]
noncomputable def j9(ks:List Int)(vs:List Dat)(i:Int)(d:Dat):List Dat:=if (ks.any fun k=>decide (k=i))=true then zg ks vs i d else vs++[d]
noncomputable def eDn:FE:=fun ρ=>some (.new (.dct [] []),ρ)
noncomputable def gDx:Dat->Dat->Option RV
 |.dct ks vs,.int i=>(bA ks vs i).map .val
 |_,_=>none
noncomputable def A1:Dat->Dat->Option RV
 |.int i,.dct ks vs=>vB (bA ks vs i).isSome
 |_,_=>none
noncomputable def qP:Dat->Dat->Option RV
 |.int i,.dct ks vs=>vB (!(bA ks vs i).isSome)
 |_,_=>none
noncomputable def lS(a b:FE):FE:=fun ρ=>match a ρ with
 |none=>none
 |some (x,ρ1)=>match pk ρ1 x with
  | some (.dct _ _)=>(match b ρ1 with
   |none=>none
   |some (y,ρ2)=>match pk ρ2 x with
    | some (.dct ks vs)=>(match pk ρ2 y with
     |some (.int i)=>some (.val ((bA ks vs i).getD .non),ρ2)
     |_=>none)
    |_=>none)
  |_=>none
noncomputable def eD1(a b:FE):FE:=fun ρ=>match a ρ with
 | some (.val (.int i),ρ1)=>(match b ρ1 with
  |none=>none
  |some (x,ρ2)=>match tk ρ2 x with
   |none=>none
   |some (d,ρ3)=>some (.new (.dct [i] [d]),ρ3))
 |_=>none
noncomputable def lT(i:Nat)(j e:FE):FS:=fun ρ=>match e ρ with
 |none=>none
 |some (x,ρ1)=>match tk ρ1 x with
  |none=>none
  |some (d,ρ2)=>match ρ2[i]? with
   | some (.ow _)=>(match j ρ2 with
    | some (.val (.int k),ρ3)=>(match ρ3[i]? with
     |some (.ow (.dct ks vs))=>if ks.length<SZ then some (.nx (ρ3.set i (.ow (.dct (j8 ks k) (j9 ks vs k d))))) else none
     |_=>none)
    |_=>none)
   |_=>none
end Dm
namespace Br
open PySem PySem.Spec PyProof.Rows L2
section
variable{ds:List Dm.Dat}{ks:List Int}{H0:Hp}{d:Dm.Dat}{v:V}
theorem dP{H0 H:Hp}(s:ak H0 H)(r:kO H0 H v (.dct ks ds)):∃a kvs,v=.ref a/\H a=some (.dK kvs)/\kvs.map (·.1)=ks.map Te/\az H0 (kvs.map (·.2)) ds:=by
 rcases r with r | ⟨a,e,kvs,q,ek,rs⟩
 ·cases r with
  |dct q ek rs=>exact⟨_,_,rfl,s _ _ q,ek,rs⟩
 ·exact⟨a,kvs,e,q,ek,rs⟩
theorem sy{a b:Int}(h:¬a=b):¬(Te a:Key)=Te b:=fun q=>h (Te.inj q)
theorem gQ(i:Int):∀{kvs:List (Key×V)} {ks:List Int} {ds:List Dm.Dat},kvs.map (·.1)=ks.map Te->az H0 (kvs.map (·.2)) ds ->
  (∃d v,Dm.bA ks ds i=some d/\iu kvs (Te i)=some v/\Rep H0 v d)\/(Dm.bA ks ds i=none/\iu kvs (Te i)=none)
 |[],[],_,_,r=>by cases r;exact .inr ⟨rfl,rfl⟩
 |[],_::_,_,e,_=>by cases e
 |_::_,[],_,e,_=>by cases e
 |(k0,v0)::kvs,k::ks,_,e,r=>by
  rw[Sq]at r;cases r with
  |cons r0 rr=>
   rw[Sq,Sq]at e;injection e with e1 e2
   have e1:k0=Te k:=e1;subst e1;unfold Dm.bA;by_cases h:k=i
   ·subst h;rw[if_pos rfl];exact .inl ⟨_,v0,rfl,jQ rfl,r0⟩
   ·rw[if_neg h,jR (sy h)];exact gQ i e2 rr
theorem C0(i:Int):∀{kvs:List (Key×V)} {ks:List Int},kvs.map (·.1)=ks.map Te->(kvs.any fun kv=>decide (kv.1=Te i))=(ks.any fun k=>decide (k=i))
 |[],[],_=>rfl
 |[],_::_,e=>by cases e
 |_::_,[],e=>by cases e
 |(k0,v0)::kvs,k::ks,e=>by
  rw[Sq,Sq]at e;injection e with e1 e2
  have e1:k0=Te k:=e1;subst e1;rw[Ux,Ux,C0 i e2]
  congr 1
  by_cases h:k=i
  ·subst h;simp
  ·have:=sy h;simp[h,this]
theorem zh(i:Int)(rv:Rep H0 v d):∀{kvs:List (Key×V)} {ks:List Int} {ds:List Dm.Dat},kvs.map (·.1)=ks.map Te->az H0 (kvs.map (·.2)) ds ->
  ((kvs.map fun kv=>if kv.1=Te i then (kv.1,v) else kv).map (·.1)=ks.map Te)/\az H0 ((kvs.map fun kv=>if kv.1=Te i then (kv.1,v) else kv).map (·.2)) (Dm.zg ks ds i d)
 |[],[],_,_,r=>by cases r;exact⟨rfl,.nil⟩
 |[],_::_,_,e,_=>by cases e
 |_::_,[],_,e,_=>by cases e
 |(k0,v0)::kvs,k::ks,_,e,r=>by
  rw[Sq]at r;cases r with
  |cons r0 rr=>
   rw[Sq,Sq]at e;injection e with e1 e2
   have e1:k0=Te k:=e1;subst e1;obtain⟨i1,i2⟩:=zh i rv e2 rr;unfold Dm.zg;by_cases h:k=i
   ·subst h;rw[if_pos rfl,Sq,Sq,Sq,i1];simp only[if_true];exact⟨trivial,.cons rv i2⟩
   ·rw[if_neg h,Sq,Sq,Sq,i1];have:=sy h;simp only[this,if_false];exact⟨trivial,.cons r0 i2⟩
theorem xJ(i:Int)(rv:Rep H0 v d){kvs:List (Key×V)}(e:kvs.map (·.1)=ks.map Te)(r:az H0 (kvs.map (·.2)) ds) :
  (putK kvs (Te i) v).map (·.1)=(Dm.j8 ks i).map Te/\az H0 ((putK kvs (Te i) v).map (·.2)) (Dm.j9 ks ds i d):=by
 have ha:=C0 i e;unfold putK Dm.j8 Dm.j9;rw[ha];cases hb:(ks.any fun k=>decide (k=i)) with
 |true=>simp only[if_true];exact zh i rv e r
 |false=>simp only[Tw,if_false];rw[S0,S0,S0,e];exact⟨rfl,r.append (.cons rv .nil)⟩
theorem OG:OpD (fun x y H Q=>∃a v,x=.ref a/\fV H a y (some v)/\Q v H) Dm.gDx:=by
 intro H0 H x y dx dy z Q s rx ry e k;unfold Dm.gDx at e;split at e
 ·rename_i ks vs i;cases aA ry;obtain⟨a,kvs,rfl,qa,ek,rs⟩:=dP s rx;rcases gQ i ek rs with⟨d,v,l1,l2,r⟩ | ⟨l1,_⟩
  ·rw[l1]at e;cases e;refine⟨a,v,rfl,?_,k _ H0 H (aD.refl s) r⟩;have:=fV.k (k:=Te i) qa;rw[l2]at this;exact this
  ·rw[l1]at e;cases e
 ·cases e
theorem Lx:OpD (fun y x H Q=>∃a o,x=.ref a/\fV H a y o/\Q (.bl o.isSome) H) Dm.A1:=by
 intro H0 H x y dx dy z Q s rx ry e k;unfold Dm.A1 at e;split at e
 ·rename_i i ks vs;cases e;cases aA rx;obtain⟨a,kvs,rfl,qa,ek,rs⟩:=dP s ry;refine⟨a,_,rfl,fV.k (k:=Te i) qa,k _ H0 H (aD.refl s) ?_⟩;rcases gQ i ek rs with⟨d,v,l1,l2,r⟩ | ⟨l1,l2⟩
  ·rw[l1,l2];exact .bl _
  ·rw[l1,l2];exact .bl _
 ·cases e
theorem G7:OpD (fun y x H Q=>∃a o,x=.ref a/\fV H a y o/\Q (.bl (!o.isSome)) H) Dm.qP:=by
 intro H0 H x y dx dy z Q s rx ry e k;unfold Dm.qP at e;split at e
 ·rename_i i ks vs;cases e;cases aA rx;obtain⟨a,kvs,rfl,qa,ek,rs⟩:=dP s ry;refine⟨a,_,rfl,fV.k (k:=Te i) qa,k _ H0 H (aD.refl s) ?_⟩;rcases gQ i ek rs with⟨d,v,l1,l2,r⟩ | ⟨l1,l2⟩
  ·rw[l1,l2];exact .bl _
  ·rw[l1,l2];exact .bl _
 ·cases e
end
section
variable{σ:L2.St}{H:Hp}{Q:VK}{D:Ends}
theorem Rm(h:tD Dm.eDn σ H Q):Ci σ H Q:=by obtain⟨H0,ρ,x,ρ',st,e,k⟩:=h;cases e;intro p hp;have g:=aD.gb (o:=HO.dK []) st.same hp;exact k _ _ _ (.grow st g) ⟨p,rfl,hp,st.bh hp,st.same.free hp,[],ao,rfl,.nil⟩
theorem Ly{fo fi:Dm.FE}(h:tD (Dm.lS fo fi) σ H Q):Cn (tD fo) (tD fi) σ H Q:=by
 obtain⟨H0,ρ,x,ρ',st,e,k⟩:=h;unfold Dm.lS at e;split at e
 ·cases e
 rename_i x1 ρ1 e1;split at e
 case h_2=>cases e
 rename_i ks0 vs0 p0;split at e
 ·cases e
 rename_i y1 ρ2 e2;split at e
 case h_2=>cases e
 rename_i ks vs p1;split at e
 case h_2=>cases e
 rename_i i p2;cases e;refine⟨H0,ρ,x1,ρ1,st,e1,fun v H1 Hb t1 r1=>?_⟩;obtain⟨a,Lz,rfl,qa0,_,_⟩:=dP t1.st.same (r1.look t1.st p0);refine⟨a,rfl,.inl ⟨Lz,.inl qa0⟩,H1,ρ1,y1,_,t1.st,e2,fun u H2 Hc t2 r2=>?_⟩;have hu:=aA (r2.look t2.st p2);subst hu;obtain⟨a',kvs,ea,qa,ek,rs⟩:=dP t2.st.same ((r1.mono t2).look t2.st p1);cases ea;refine⟨_,fV.k (k:=Te i) qa,k _ H2 Hc (t1.trans t2) ?_⟩;rcases gQ i ek rs with⟨d,w,l1,l2,r⟩ | ⟨l1,l2⟩
 ·rw[l1,l2];exact r
 ·rw[l1,l2];exact Rep.non
theorem LA{i:Nat}{j f:Dm.FE}(h:tDS (Dm.lT i j f) D σ H):IP (fT i) (tD j) (tD f) D σ H:=by
 obtain⟨H0,ρ,o,st,e,k⟩:=h;unfold Dm.lT at e;split at e
 ·cases e
 rename_i x ρ1 e1;split at e
 ·cases e
 rename_i d ρ2 e2;split at e
 case h_2=>cases e
 rename_i d0 h2;split at e
 ·rename_i m ρ3 e3;split at e
  ·rename_i ks vs h3;split at e
   case isFalse=>cases e
   rename_i hz;cases e;refine⟨H0,ρ,_,ρ1,st,e1,fun v H0' H' t r=>?_⟩;obtain⟨H1,t1,b1,r1,_,_⟩:=take1 t (ak.refl _) r e2;obtain⟨a0,q0,_,_⟩:=t1.st.ow i _ h2;refine⟨_,q0,H1,ρ2,_,ρ3,t1.st,e3,fun u H2 Hc t2 r2=>?_⟩;obtain⟨a,q,n,w⟩:=t2.st.ow i _ h3;rw[q0]at q;cases q;obtain⟨kvs,y,ek,rs⟩:=w;have hu:=Rep.isInt r2;subst hu;obtain⟨p1,p2⟩:=xJ m (r1.mono t2.stp.s0) ek rs;have Fd:kvs.length=ks.length:=by
    have:=congrArg List.length ek
    simpa using this
   refine⟨a0,_,rfl,Cf.k (k:=Te m) y (by rw[Fd];exact SX hz (by decide)),?_⟩;have ow:ai σ ρ3 a0:=⟨i,_,h3,q0⟩
   have tt:=t1.trans t2;exact k σ H2 _ ⟨t2.st.write h3 q0 ⟨_,ao,p1,p2⟩,tt.stp.trans (Stp.write ow) fun b z=>.inl (tt.own b z),fun b z=>.inl (tt.own b (cj h3 z)),rfl⟩
  ·cases e
 ·cases e
theorem Rn{fa fb:Dm.FE}(h:tD (Dm.eD1 fa fb) σ H Q):IQ [(tD fa,tD fb)] σ H Q:=by
 obtain⟨H0,ρ,x,ρ',st,e,k⟩:=h;unfold Dm.eD1 at e;split at e
 ·rename_i i ρ1 e1;split at e
  ·cases e
  rename_i y ρ2 e2;split at e
  ·cases e
  rename_i d ρ3 e3;cases e;intro p hp;have n0:H0 p=none:=st.same.free hp;have no:¬ai σ ρ p:=st.bh hp;refine⟨H0,ρ,_,ρ1,st.aside n0 no,e1,fun u H1 Hb t1 r1=>⟨H1,ρ1,y,ρ2,t1.st,e2,fun v H2 Hc t2 r2=>?_⟩⟩;have tt:=t1.trans t2;obtain⟨H3,t3,b3,r3,_,_⟩:=take1 tt (ak.refl _) (r2.early fun a n=>t1.stp.gone n) e3;obtain⟨hp3,n3,no3⟩:=t3.bR (o:=HO.dK []) ao n0 no;have hu:=Rep.isInt r1;subst hu;refine⟨hp3,[(Te i,v)],rfl,(by simp),?_⟩;have em:kL [] [((Te i:Key),v)]=[(Te i,v)]:=rfl;rw[em];refine k _ H3 _ ⟨t3.st.aside n3 no3,⟨t3.stp.s0,fun a o y nb=>?_,fun a o y=>?_,fun a o y=>?_⟩,t3.own,t3.dfn⟩ ⟨p,rfl,hp,no3,n3,_,ao,rfl,.cons r3 .nil⟩
  ·have ne:a≠p:=fun q=>by rw[q,hp]at y;cases y
   rw[aq ne];exact t3.stp.s1 a o (by rw[aq ne];exact y) nb
  ·rcases t3.stp.s2 a o y with y1 | y1 | y1
   ·by_cases ne:a=p
    ·subst ne;rw[n3]at y;cases y
    ·rw[aq ne]at y1;exact .inl y1
   ·exact .inr (.inl y1)
   ·exact .inr (.inr y1)
  ·have ne:a≠p:=fun q=>by rw[q,hp]at y;cases y
   rw[aq ne];exact t3.stp.s3 a o (by rw[aq ne];exact y)
 ·cases e
end
theorem u1{k:Nat}{A:Around}(hr:bq k A):A.units+1<cLine:=VD (Nat.add_le_add_left (by decide) _) hr.units
section
variable{X:Cx}{a b e:Expr}{fa fb f:Dm.FE}{pos:Pos}{k:Nat}
theorem OH:DE X (.Dict [] [] pos) Dm.eDn:=PE.weak Cj fun _ _ _=>Rm
theorem Ro(ha:DE X a fa)(hb:DE X b fb):DE X (.Dict [some a] [b] pos) (Dm.eD1 fa fb):=PE.weak (GF (Ck ha hb GD) rfl rfl (by simp) (by simp)) fun _ _ _=>Rn
theorem xK(hr:bq k X.A)(ha:DE X a fa)(hb:DE X b fb)(hs:KN b:=by intro _ _;rfl):DE X (.Subscript a b pos) (Dm.e2 Dm.gDx fa fb):=PE.weak (GB (u1 hr) ha hb hs) fun _ _ _=>xA OG
theorem Ja(hr:bq k X.A)(ha:DE X a fa)(hb:DE X b fb)(hm:behindInMarks .In b=false:=by rfl):DT X (.Compare a [.In] [b] pos) (Dm.tV (Dm.e2 Dm.A1 fa fb)):=PT.weak (BP (KP (u1 hr) ha hb) hm) fun σ H Q h=>xA Lx (r8 h)
theorem C1(hr:bq k X.A)(ha:DE X a fa)(hb:DE X b fb)(hm:behindInMarks .NotIn b=false:=by rfl):DT X (.Compare a [.NotIn] [b] pos) (Dm.tV (Dm.e2 Dm.qP fa fb)):=PT.weak (BP (AO (u1 hr) ha hb) hm) fun σ H Q h=>xA G7 (r8 h)
theorem C2{Pz cpos:Pos}(hr:bq k X.A)(ha:DE X a fa)(hb:DE X b fb)(m:M1 X a "get" Pz b cpos:=by exact⟨rfl,rfl,rfl,rfl⟩):DE X (.Call (.Attribute a "get" Pz) [b] [] cpos) (Dm.lS fa fb):=PE.weak (Cp (u1 hr) ha hb m) fun _ _ _=>Ly
theorem xM(i:Nat){x:Str}{px sp:Pos}(hr:bq k X.A)(hb:DE X b fb)(he:DE X e f)(hi:X.N[i]?=some x:=by rfl)(hv:Vis X.env.scope x:=by trivial)(hd:(x == ("__debug__" : Str))=false:=by decide)
  (PJ:(x == ("__classdict__" : Str))=false:=by decide) (hs:swapsWith e (some (.Subscript (.Name x px) b sp)) pos.line X.env=pure false:=by rfl):DS X (.Assign [.Subscript (.Name x px) b sp] e pos) (Dm.lT i fb f):=
 PS.weak (GC (u1 hr) (bL hi hv hd PJ) hb he hs) fun _ _ _=>LA
end
end Br
namespace Dm
noncomputable def Sj(a:FE)(lo hi:Option FE):FE:=fun ρ=>match a ρ with
 |none=>none
 |some (x,ρ1)=>match part lo ρ1 with
  |none=>none
  |some (l,ρ2)=>match part hi ρ2 with
   |none=>none
   |some (h,ρ3)=>match pk ρ3 x with
    |some (.tup xs)=>if sIx xs.length 0 l=0/\sIx xs.length xs.length h=xs.length then none else some (.val (.tup (cut xs l h)),ρ3)
    |_=>none
noncomputable def qQ:List Dat->Option RV
 |[.tup [.int a,.int b]]=>if -1000000<=a/\a<=1000000/\-1000000<=b/\b<=1000000 then vI (a+b) else none
 |_=>none
end Dm
namespace Br
open PySem PySem.Spec PyProof.Rows L2
section
variable{σ:L2.St}{H:Hp}{Q:VK}
theorem Rp{K:gc}{f:Dm.FE}{Q:Bool->Hp->Prop}(h:tDT (Dm.tTr f) σ H Q):tD f σ H fun x H'=>∃k,Ks K x H' k/\Q k H':=by
 obtain⟨H0,ρ,b,ρ',st,e,k⟩:=h;unfold Dm.tTr at e;split at e
 ·cases e
 rename_i x ρ1 e1;split at e
 ·cases e
 rename_i d p1;split at e
 ·cases e
 rename_i c tc;cases e;refine⟨H0,ρ,x,_,st,e1,fun v H1 Hb t1 r1=>⟨b,?_,k H1 Hb t1⟩⟩;have rl:=r1.look t1.st p1;cases d with
 |non=>
  cases tc;rcases rl with r | ⟨a,_,w⟩
  ·cases r;rfl
  ·exact Tt w
 |bl c=>cases tc;cases y9 rl;rfl
 |int i=>cases tc;cases aA rl;rfl
 |tup es=>cases tc;obtain⟨a,xs,rfl,qa,rs⟩:=eT t1.st.same rl;refine .inr (.inl ⟨xs,SqT.of qa,?_⟩);cases rs<;>rfl
 |lst es=>cases tc;obtain⟨a,xs,rfl,qa,rs⟩:=bx t1.st.same rl;refine .inl ⟨xs,.inl qa,?_⟩;cases rs<;>rfl
 |str _=>cases tc
 |dct _ _=>cases tc
 |exc _=>cases tc
 |fn _=>cases tc
end
section
variable{X:Cx}{a:Expr}{fa:Dm.FE}{p pos:Pos}
theorem Rq(ha:DE X a fa)(he:∀whole,isTrue a X.env whole=(do let v <- whole;standAt a.pos;holding [v] (truthy v)):=by intro _;rfl):DT X a (Dm.tTr fa):=PT.weak (B6 ha he) fun _ _ _=>Rp
end
section
variable{X:Cx}{a b e:Expr}{fa fb f:Dm.FE}{fs:List Dm.FE}{p p2 pos:Pos}
theorem A2(hc:X.calm=true):cg X (.builtin "sum") (fun xs H Q=>∃(q:Addr) (i j:Int),xs=[.ref q]/\H q=some (.tup [.int i,.int j])/\(-1000000<=i/\i<=1000000/\-1000000<=j/\j<=1000000)/\Q (.int (i+j)) H):=by
 intro uW s σ H xs us Q I r h;obtain⟨q,i,j,rfl,hq,hb,k⟩:=h;obtain⟨u,rfl,rx⟩:=vals1 r;cases rx;obtain⟨its,rv,pl,hz⟩:=I.tuple (SqT.of hq);obtain⟨u1,u2,rfl,r1,r2⟩:=vals2 rv;obtain⟨t1,rfl⟩:=r1;obtain⟨t2,rfl⟩:=r2;have ht:s.heap.IsTuple q #[.int i t1,.int j t2]:=pl;obtain⟨oq,eq,_⟩:=id ht;have hax:q≠s.heap.objs.size:=S7 (SI eq);refine PySem.call_sum_walk (wpAny_pyIter_tuple ht ⟨s.heap.objs.size,_,_,_,_,_,fun n=>if n=0 then i else j,rfl,Walks.tuple (A:=X.A.in1) (I.ok.hd hc) s.heap.objs.size q hax #[.int i t1,.int j t2],⟨⟨_,S2 _ rfl,rfl,rfl⟩,?_⟩,?_,?_,?_,fun h' tk t' hk=>?_⟩)
 ·exact ht.at fun o e=>Sz _ e
 ·intro b hb;simp only[SD,TV,or_false]at hb;have hz:(s.heap.push { cls:=.type "tuple_iterator",data:=.fields #[.ref q,.int 0 0] }).objs.size=s.heap.objs.size+1:=UE ..;show b<(s.heap.push { cls:=.type "tuple_iterator",data:=.fields #[.ref q,.int 0 0] }).objs.size;rw[hz];rcases hb with rfl | rfl
  ·exact UX _
  ·exact UR (SI eq)
 ·intro n v hv
  match n,hv with
  |0,hv=>cases hv;exact⟨t1,rfl⟩
  |1,hv=>cases hv;exact⟨t2,rfl⟩
  |n+2,hv=>simp at hv
 ·intro n hn;have hn:n<2:=hn
  match n,hn with
  |0,_=>simp[InLong,preSum];omega
  |1,_=>simp[InLong,preSum];omega
 ·refine⟨.int (i+j),H,I.kept (t':=tk) fun b o eb=>hk b o ?_ (Sz _ eb),⟨t',?_⟩,k⟩
  ·intro hm;have:b=s.heap.objs.size:=by simpa using hm
   exact absurd (SI eb) (by rw[this];exact TU _)
  ·simp[preSum]
theorem G8:CallD (fun xs H Q=>∃(q:Addr) (i j:Int),xs=[.ref q]/\H q=some (.tup [.int i,.int j])/\(-1000000<=i/\i<=1000000/\-1000000<=j/\j<=1000000)/\Q (.int (i+j)) H) Dm.qQ:=by
 intro H0 H xs ds z Q s rx e k;unfold Dm.qQ at e;split at e
 ·rename_i i j;split at e
  ·rename_i hb;cases e;cases rx with
   |cons r rr=>
    cases rr;obtain⟨q,us,rfl,qa,ra⟩:=eT s r;cases ra with
    |cons r1 rr=>
     cases rr with
     |cons r2 rr=>cases rr;cases Rep.isInt r1;cases Rep.isInt r2;exact⟨q,i,j,rfl,qa,hb,k _ H0 H (aD.refl s) (.int _)⟩
  ·cases e
 ·cases e
theorem LB(hc:X.calm=true)(hg:Gl X "sum")(hm:X.mg "sum" = none)(ha:DA X [e] fs)(he:starEach [e] X.env=[(false,eval e X.env)]:=by rfl)(HL:(backTo pos (starEach [] X.env)).any (·.1)=false:=by rfl):DE X (.Call (.Name "sum" p) [e] [] pos) (Dm.eB Dm.qQ fs):=AV (A2 hc) G8 PyProof.Rows.boot_sum hg hm ha (he:=he) (HL:=HL)
end
end Br
namespace Dm
noncomputable def lU:List Dat->Option (List Int)
 |[]=>some []
 |.int i::r=>(lU r).map fun ns=>i::ns
 |_=>none
noncomputable def dedup(ns:List Int):List Int:=ns.foldl (fun En x=>if En.any (· == x) then En else En++[x]) []
noncomputable def fm:Dat->Option RV
 | .lst ds=>(match lU ds with
  |some ns=>if ns.length<=4000 then vI (dedup ns).length else none
  |none=>none)
 |_=>none
end Dm
namespace Br
open PySem PySem.Spec PyProof.Rows L2
def t9(K:gc):List V->Hp->VK->Prop:=fun xs H Q=>∃(q:Addr) (ns:List Int),xs=[.ref q]/\SqL K H q (ns.map V.int)/\ns.length+1<scanBound /\
 ∀l,H l=none->Q (.ref l) (upd H l (.set (fun k'=>(firstMet (fun i=>ns.getD i 0) ns.length).any (· == k')) (firstMet (fun i=>ns.getD i 0) ns.length).length))
def Jb:List V->Hp->VK->Prop:=fun xs H Q=>∃(q:Addr) (S:Int->Bool) (n:Nat),xs=[.ref q]/\H q=some (.set S n)/\Q (.int n) H
theorem intsAre_of:∀{ns:List Int} {its:List Value},Vals (ns.map V.int) its->IntsAre its ns
 |[],_,r=>by cases r;exact .nil
 |n::ns,_,r=>by
  rw[Sq]at r;cases r with
  |cons h t=>obtain⟨tk,rfl⟩:=h;exact .cons _ _ (intsAre_of t)
section
variable{X:Cx}
theorem A3(hc:X.calm=true):cg X (.type "set") (t9 X.K):=by
 intro uW s σ H xs us Q I r h;obtain⟨q,ns,rfl,hq,hb,k⟩:=h;obtain⟨u,rfl,rx⟩:=vals1 r;cases rx;obtain⟨its,rv,pl,hz⟩:=I.list hq;have hl:=rv.length;rw[Ss]at hl;refine call_set_list (ns:=ns) (I.ok.hd hc) pl.isList (intsAre_of rv) (by rw[SG,<- hl];exact hb) fun h' tk hS hk=>?_;have hz2:its.toArray.size=ns.length:=by rw[SG,<- hl]
 rw[hz2]at hS;exact⟨.ref s.heap.objs.size,_,I.laid (a:=s.heap.objs.size) (o:=.set (fun k'=>(firstMet (fun i=>ns.getD i 0) ns.length).any (· == k')) (firstMet (fun i=>ns.getD i 0) ns.length).length) (t':=tk) (fun b u e=>hk b u (SI e) e) (SA _) hS,rfl,k _ (I.hok.fresh (SA _))⟩
theorem A4:cg X (.builtin "len") Jb:=by intro uW s σ H xs us Q I r h;obtain⟨q,S,n,rfl,hq,k⟩:=h;obtain⟨u,rfl,rx⟩:=vals1 r;cases rx;obtain⟨o,es,ep,t,ho,hex,hd,_,_,hb,hf,hn⟩:s.heap.SetOf (intKind X.prog X.w) q S n:=I.hok q _ hq;have hb':es.size<4096:=hb;refine call_len_set ho hex hd hf (by omega) ?_;exact⟨.int n,H,I.tok _,⟨_,by rw[hn]⟩,k⟩
end
theorem nI{H0:Hp}:∀{ds:List Dm.Dat} {xs:List V} {ns:List Int},az H0 xs ds->Dm.lU ds=some ns->xs=ns.map V.int
 |[],_,ns,r,e=>by cases r;cases e;rfl
 |d::ds,_,ns,r,e=>by
  cases r with
  |cons h t=>
   cases d with
   |int i=>
    unfold Dm.lU at e;cases q:Dm.lU ds with
    |none=>rw[q]at e;cases e
    |some ms=>rw[q]at e;cases e;cases Rep.isInt h;rw[nI t q];rfl
   |_=>cases e
theorem range_getD(ns:List Int):(SH ns.length).map (fun i=>ns.getD i 0)=ns:=by
 apply UQ;intro i;rw[SS];by_cases h:i<ns.length
 ·rw[Ua h,SK h];simp[T8,h]
 ·rw[Tj (by simpa using h),Tj (by simpa using h)];rfl
theorem dQ(ns:List Int):(firstMet (fun i=>ns.getD i 0) ns.length)=Dm.dedup ns:=by unfold firstMet Dm.dedup;rw[range_getD];rfl
section
variable{X:Cx}{e:Expr}{f:Dm.FE}{p p0 pos iB:Pos}
theorem C3{K:gc}{σ:L2.St}{H:Hp}{Q:VK}(h:tD (Dm.e1 Dm.fm f) σ H Q):tCB Jb (eG (tCB (t9 K) (eG (tD f) kI)) kI) σ H Q:=by
 obtain⟨H0,ρ,x,ρ',st,e,k⟩:=h;unfold Dm.e1 at e;split at e
 ·cases e
 rename_i x1 ρ1 e1;split at e
 ·cases e
 rename_i dx p1;split at e
 ·cases e
 rename_i z gz;cases e;unfold Dm.fm at gz;split at gz
 ·rename_i ds;split at gz
  ·rename_i ns en;split at gz
   ·rename_i hb;cases gz;refine⟨H0,ρ,x1,_,st,e1,fun v H1 Hb t1 r1=>?_⟩;obtain⟨a,xs,rfl,qa,ra⟩:=bx t1.st.same (r1.look t1.st p1);have ex:=nI ra en;subst ex;refine⟨a,ns,rfl,.inl qa,by show ns.length+1<4096;omega,fun l hl=>⟨l,_,_,rfl,ao,?_⟩⟩;rw[dQ];exact k _ _ _ (t1.trans (.grow t1.st (aD.gb t1.st.same hl))) (Rep.int _)
   ·cases gz
  ·cases gz
 ·cases gz
theorem uD(hc:X.calm=true)(hgl:Gl X "len")(hml:X.mg "len" = none)(hg:Gl X "set")(hm:X.mg "set" = none)(h:DE X e f)(hs:starEach [e] X.env=[(false,eval e X.env)]:=by rfl)
  (hs0:starEach [.Call (.Name "set" p) [e] [] pos] X.env=[(false,eval (.Call (.Name "set" p) [e] [] pos) X.env)]:=by rfl) (HL:(backTo pos (starEach [] X.env)).any (·.1)=false:=by rfl) (LC:(backTo iB (starEach [] X.env)).any (·.1)=false:=by rfl) :
  DE X (.Call (.Name "len" p0) [.Call (.Name "set" p) [e] [] pos] [] iB) (Dm.e1 Dm.fm f):=
 PE.weak (jO A4 hgl hml PySem.boot_len (b4 (kJ (A3 hc) hg hm (by rfl) (b4 h dM hs) (he:=hs) (HL:=HL)) dM hs0) (he:=hs0) (HL:=LC)) fun _ _ _=>C3
end
end Br
namespace Ts
open PySem PyProof.Rows
variable{M:Model}{A:Around}{E:Value->Shared->Prop}{s:Shared}{κ:KeyKind}{kd:SortKind}{a₀:Array Keyed}
end Ts
namespace Ts
open PySem PyProof.Rows
variable{M:Model}{A:Around}{E:Value->Shared->Prop}{s:Shared}{κ:KeyKind}{kd:SortKind}{a₀:Array Keyed}
end Ts
namespace Ts
open PySem PyProof.Rows
variable{M:Model}{A:Around}{E:Value->Shared->Prop}{s:Shared}{κ:KeyKind}{kd:SortKind}{a₀:Array Keyed}
end Ts
namespace Ts
open PySem PyProof.Rows
variable{M:Model}{A:Around}{E:Value->Shared->Prop}{s:Shared}{κ:KeyKind}{kd:SortKind}{a₀:Array Keyed}
end Ts
namespace Ts
open PySem PyProof.Rows
variable{A:Around}{E:Value->Shared->Prop}{s:Shared}{κ:KeyKind}{kd:SortKind}{a₀:Array Keyed}{prog:Program}{w:World}
end Ts
namespace Ts
open PySem PyProof.Rows
variable{A:Around}{E:Value->Shared->Prop}{s:Shared}{κ:KeyKind}{kd:SortKind}{a₀:Array Keyed}{prog:Program}{w:World}
end Ts
namespace Ts
open PySem PyProof.Rows
variable{A:Around}{E:Value->Shared->Prop}{s:Shared}{κ:KeyKind}{kd:SortKind}{a₀:Array Keyed}{prog:Program}{w:World}
end Ts
namespace Ts
open PySem PyProof.Rows
variable{A:Around}{E:Value->Shared->Prop}{s:Shared}{κ:KeyKind}{kd:SortKind}{a₀:Array Keyed}{prog:Program}{w:World}
end Ts
namespace Ts
open PySem PyProof.Rows
variable{A:Around}{E:Value->Shared->Prop}{s:Shared}{κ:KeyKind}{kd:SortKind}{prog:Program}{w:World}
end Ts
namespace Ts
open PySem PyProof.Rows
variable{A:Around}{E:Value->Shared->Prop}{s:Shared}{κ:KeyKind}{kd:SortKind}{a₀:Array Keyed}{prog:Program}{w:World}
end Ts
namespace Ts
open PySem PyProof.Rows
variable{A:Around}{E:Value->Shared->Prop}{s:Shared}{κ:KeyKind}{kd:SortKind}{prog:Program}{w:World}
end Ts
namespace Tk
open PySem PySem.W PyProof.Rows
end Tk
namespace Dm
section
variable{α:Type}
noncomputable def ins{α:Type}(lt:α->α->Bool)(x:α):List α->List α
 |[]=>[x]
 |y::l=>if lt y x then y::ins lt x l else x::y::l
noncomputable def cU{α:Type}(lt:α->α->Bool):List α->List α
 |[]=>[]
 |x::l=>ins lt x (cU lt l)
theorem nJ(lt:α->α->Bool)(x:α):∀l,(ins lt x l).Perm (x::l)
 |[]=>List.Perm.refl _
 |y::l=>by
  rw[ins];split
  ·exact((nJ lt x l).cons y).trans (V5.swap x y l)
  ·exact List.Perm.refl _
theorem cK(lt:α->α->Bool):∀l,(cU lt l).Perm l
 |[]=>List.Perm.refl _
 |x::l=>(nJ lt x _).trans ((cK lt l).cons x)
theorem nK{lt:α->α->Bool}(tr:∀a b c,lt b a=false->lt c b=false->lt c a=false)(as:∀a b,lt a b=true->lt b a=false)(x:α):∀l:List α,l.Pairwise (fun a b=>lt b a=false)->(ins lt x l).Pairwise (fun a b=>lt b a=false)
 |[],_=>by simp[ins]
 |y::l,h=>by
  rw[ins];obtain⟨h1,h2⟩:=T4.mp h;split
  ·rename_i hl;refine T4.mpr ⟨fun z hz=>?_,nK tr as x l h2⟩;rcases SD.mp ((nJ lt x l).mem_iff.mp hz) with rfl | hz
   ·exact as _ _ hl
   ·exact h1 z hz
  ·rename_i hl;have hl':lt y x=false:=by simpa using hl
   refine T4.mpr ⟨fun z hz=>?_,h⟩;rcases SD.mp hz with rfl | hz
   ·exact hl'
   ·exact tr _ _ _ hl' (h1 z hz)
theorem di{lt:α->α->Bool}(tr:∀a b c,lt b a=false->lt c b=false->lt c a=false)(as:∀a b,lt a b=true->lt b a=false):∀l:List α,(cU lt l).Pairwise (fun a b=>lt b a=false)
 |[]=>List.Pairwise.nil
 |x::l=>nK tr as x _ (di tr as l)
theorem d8{lt:α->α->Bool}(tot:∀a b,lt a b=false->lt b a=false->a=b):∀{l m:List α},l.Perm m->l.Pairwise (fun a b=>lt b a=false)->m.Pairwise (fun a b=>lt b a=false)->l=m
 |[],m,p,_,_=>(List.nil_perm.mp p).symm
 |x::l,[],p,_,_=>by have:=p.length_eq;simp at this
 |x::l,y::m,p,h1,h2=>by
  obtain⟨a1,a2⟩:=T4.mp h1;obtain⟨b1,b2⟩:=T4.mp h2;have e:x=y:=by
   rcases SD.mp (p.mem_iff.mp Sw) with hx | hx
   ·exact hx
   ·rcases SD.mp (p.mem_iff.mpr (Sw (a:=y) (l:=m))) with hy | hy
    ·exact hy.symm
    ·exact tot x y (b1 x hx) (a1 y hy)
  subst e;rw[d8 tot (V5.cons_inv p) a2 b2]
end
end Dm
namespace Br
open PySem PySem.Spec PyProof.Rows L2
end Br
namespace Dm
noncomputable def A5(i:Nat)(e:FE):FS:=fun ρ=>match ρ[i]? with
 | some (.ow (.lst _))=>(match e ρ with
  |none=>none
  |some (x,ρ1)=>match pk ρ1 x with
   | some (.lst es)=>(match ρ1[i]? with
    |some (.ow (.lst ds))=>if ds.length+es.length<=SZ then some (.nx (ρ1.set i (.ow (.lst (ds++es))))) else none
    |_=>none)
   |_=>none)
 |_=>none
noncomputable def kW(i:Nat)(e:FE):FE:=fun ρ=>match ρ[i]? with
 | some (.ow (.lst _))=>(match e ρ with
  | some (.val (.int j),ρ1)=>(match ρ1[i]? with
   | some (.ow (.lst ds))=>if 0≤j∧j≤BIG then (match ds[j.toNat]? with
     |some d=>some (.val d,ρ1.set i (.ow (.lst (ds.eraseIdx j.toNat))))
     |none=>none) else none
   |_=>none)
  |_=>none)
 |_=>none
noncomputable def isN:Dat->Bool
 |.non=>true
 |_=>false
noncomputable def sC:Dat->Dat->Option RV
 |d,.non=>vB (isN d)
 |_,_=>none
end Dm
namespace Br
open PySem PySem.Spec PyProof.Rows L2
theorem kX{H0:Hp}:∀ns:List Int,az H0 (ns.map V.int) (ns.map Dm.Dat.int)
 |[]=>.nil
 |n::ns=>.cons (.int n) (kX ns)
section
variable{X:Cx}{a b c e:Expr}{f fa fb:Dm.FE}{fs:List Dm.FE}{p pos:Pos}
def OI(neg:Bool):R2:=fun x y H Q=>y=.non/\Q (.bl (if neg then !decide (x=V.non) else decide (x=V.non))) H
theorem G9{x:V}{v:Value}(r:RelV x v):(v == Value.none)=decide (x=V.non):=by
 cases x with
 |non=>cases r;rfl
 |bl b=>cases r;rfl
 |int i=>obtain⟨t,rfl⟩:=r;rfl
 |str z=>obtain⟨t,rfl⟩:=r;rfl
 |byt z=>obtain⟨t,rfl⟩:=r;rfl
 |flt z=>obtain⟨t,rfl⟩:=r;rfl
 |ref z=>cases r;rfl
 |ty z=>cases r;rfl
theorem C4:OpR X (compareOp .Is) (OI false):=by intro uW s σ H x y v u Q I rx ry h;obtain⟨rfl,q⟩:=h;cases ry;refine is_none_gen ?_;rw[G9 rx];exact⟨.bl _,H,I,rfl,q⟩
theorem zj{H0 H:Hp}{x:V}{d:Dm.Dat}(r:kO H0 H x d):decide (x=V.non)=Dm.isN d:=by
 rcases r with r | ⟨a,rfl,w⟩
 ·cases r<;>rfl
 ·cases d with
  |non=>exact Tt w
  |_=>rfl
theorem C5:OpD (OI false) Dm.sC:=by
 intro H0 H x y dx dy z Q s rx ry e k;unfold Dm.sC at e;split at e
 ·cases e;have hy:=zj ry;have:y=V.non:=of_decide_eq_true (hy.trans rfl);refine⟨this,?_⟩;rw[if_neg (by decide),zj rx];exact k _ H0 H (aD.refl s) (.bl _)
 ·cases e
theorem OJ(ha:DE X a fa)(hb:DE X b fb):DE X (.Compare a [.Is] [b] pos) (Dm.e2 Dm.sC fa fb):=ny C4 C5 ha hb (dJ _)
theorem Jc(ha:DE X a fa)(hb:DE X b fb):DT X (.Compare a [.Is] [b] pos) (Dm.tV (Dm.e2 Dm.sC fa fb)):=nB C4 C5 ha hb (dJ _)
end
section
variable{X:Cx}
def Jd:V->List V->Hp->VK->Prop:=fun x vs H Q=>∃l b xs zs,x=.ref l/\vs=[.ref b]/\H l=some (.lst xs)/\Rd H b (.lst zs)/\xs.length+zs.length<=sizeLine/\Q .non (upd H l (.lst (xs++zs)))
theorem G_:MtM X "list.extend" Jd:=by
 intro uW s σ H x vs v us Q I rx rv h;obtain⟨l,b,xs,zs,rfl,rfl,hH,hB,hz,q⟩:=h;cases rx;obtain⟨u,rfl,ru⟩:=rv.one;cases ru;obtain⟨z,its,n,r,hl,e⟩:=I.Gw hH;obtain⟨z2,its2,n2,r2,e2⟩:=hB.ok I.hok;have hl2:=r2.length;have tot:its.toArray.size+its2.toArray.size<=sizeLine:=by simp only[SG];omega
 have short:¬(!its.toArray.isEmpty&&UJ (its.toArray.size+its2.toArray.size))=true:=by rw[ua tot,Bool.and_false];decide
 refine call_meets F.slot_list_extend ⟨_,e,rfl⟩ F.entry_list_extend (F.args_list_extend_2 _ _) (AutoSeq1.list_extend_list_list_0 l its.toArray n b its2.toArray n2 short (by rw[SG];omega) (by omega)) ⟨e,e2,?_⟩;exact⟨.non,_,I.Gv (its':=its++its2) hH e (by simp) (r.append r2) (by rw[SJ];omega),rfl,q⟩
end
section
variable{σ:L2.St}{H:Hp}{Q:VK}{D:Ends}
section
variable{f:Dm.FE}{i:Nat}{K:gc}
theorem OL(h:tDS (Dm.A5 i f) D σ H):jJ (tBM K "list" Jd (fT i) (tDA [f])) D σ H:=by
 obtain⟨H0,ρ,o,st,e,k⟩:=h;unfold Dm.A5 at e;split at e
 case h_2=>cases e
 rename_i ds0 h0;obtain⟨a0,q0,n0,w0⟩:=st.ow i _ h0;refine⟨_,q0,?_⟩;split at e
 ·cases e
 rename_i x ρ1 e1;split at e
 case h_2=>cases e
 rename_i es p1;split at e
 case h_2=>cases e
 rename_i ds h2;split at e
 case isFalse=>cases e
 rename_i hz;cases e;obtain⟨xs0,y0,_⟩:=w0;refine⟨.inl ⟨rfl,xs0,.inl (.inl y0)⟩,?_⟩;refine⟨H0,ρ,[x],ρ1,st,by unfold Dm.eAs;rw[e1];rfl,fun vs H0' H' t r=>?_⟩;cases r with
 |cons r rr=>
  cases rr;obtain⟨b,zs,rfl,qb,rb⟩:=bx t.st.same (r.look t.st p1);obtain⟨a,q,n,w⟩:=t.st.ow i _ h2;rw[q0]at q;cases q;obtain⟨xs,y,rs⟩:=w;refine⟨a0,b,xs,zs,rfl,rfl,y,qb,by rw[rs.length,rb.length];exact S8 hz (by decide),?_⟩;have ow:ai σ ρ1 a0:=⟨i,_,h2,q0⟩
  exact k σ H0' _ ⟨t.st.write h2 q0 ⟨_,ao,rs.append rb⟩,t.stp.trans (Stp.write ow) fun b z=>.inl (t.own b z),fun b z=>.inl (t.own b (cj h2 z)),rfl⟩
theorem nM{α:Type}(l:List α)(i:Nat):l.eraseIdx i=l.take i++l.drop (i+1):=List.eraseIdx_eq_take_drop_succ l i
theorem xN{H0:Hp}{vs:List V}{ds:List Dm.Dat}(i:Nat)(r:az H0 vs ds):az H0 (vs.eraseIdx i) (ds.eraseIdx i):=by rw[nM,nM];exact(r.take i).append (r.drop (i+1))
theorem Hh(h:tD (Dm.kW i f) σ H Q):tBM K "list" Cb (fT i) (tDA [f]) σ H Q:=by
 obtain⟨H0,ρ,x,ρ',st,e,k⟩:=h;unfold Dm.kW at e;split at e
 case h_2=>cases e
 rename_i ds0 h0;obtain⟨a0,q0,n0,w0⟩:=st.ow i _ h0;refine⟨_,q0,?_⟩;obtain⟨xs0,y0,_⟩:=w0;refine⟨.inl ⟨rfl,xs0,.inl (.inl y0)⟩,?_⟩;split at e
 case h_2=>cases e
 rename_i j ρ1 e1;split at e
 case h_2=>cases e
 rename_i ds h2;split at e
 case isFalse=>cases e
 rename_i hb;split at e
 case h_2=>cases e
 rename_i d hd;cases e;refine⟨H0,ρ,[.val (.int j)],ρ1,st,by unfold Dm.eAs;rw[e1];rfl,fun vs H0' H' t r=>?_⟩;cases r with
 |cons r rr=>
  cases rr;cases Rep.isInt r;obtain⟨a,q,n,w⟩:=t.st.ow i _ h2;rw[q0]at q;cases q;obtain⟨xs,y,rs⟩:=w;obtain⟨v,hv,rv⟩:=rs.get hd;have HY:j.toNat<xs.length:=(Su.mp hv).1;have hB:Dm.BIG=1000000000:=rfl;refine⟨a0,xs,j,j.toNat,v,rfl,rfl,y,by omega,by omega,?_,hv,?_⟩
  ·unfold seqIndex?;simp only[show ¬j<0 by omega,if_false];rw[if_pos (by rw[decide_eq_true (show 0<=j by omega),decide_eq_true (show j<(xs.length:Int) by omega)];rfl)]
  have ow:ai σ ρ1 a0:=⟨i,_,h2,q0⟩
  have hi:i<ρ1.length:=(Su.mp h2).1;refine k v H0' _ (t.trans ⟨t.st.write h2 q0 ⟨_,ao,xN _ rs⟩,Stp.write ow,fun b z=>cj h2 z,fun j' z=>trivial⟩) rv
end
end
section
variable{X:Cx}{e:Expr}{f:Dm.FE}{pos:Pos}
theorem ON(i:Nat){x:Str}{px ap cp:Pos}(he:DE X e f)(hi:X.N[i]?=some x:=by rfl)(hv:Vis X.env.scope x:=by trivial)(hd:(x == ("__debug__" : Str))=false:=by decide)
  (PJ:(x == ("__classdict__" : Str))=false:=by decide) (Mg:attributeBase (.Name x px) "extend" X.env (eval (.Name x px) X.env)=eval (.Name x px) X.env:=by rfl)
  (hfew:((backTo cp (starEach [e] X.env)).all (fun x=>!x.1)&&(backToKw cp (keywordEach [] X.env)).all (fun x=>x.1.isSome)
   && decide ([e].length+([]:List Keyword).length+(if ([]:List Keyword).isEmpty then 0 else 1)<30))=true:=by rfl)
  (Ih:(ap.endLine == cp.line)=true:=by rfl) (hs:starEach [e] X.env=(false,eval e X.env)::starEach [] X.env:=by rfl) (Py:(backTo cp (starEach [] X.env)).any (·.1)=false:=by rfl)
  (hsw:swapsWith (.Call (.Attribute (.Name x px) "extend" ap) [e] [] cp) none pos.line X.env=pure false:=by rfl) :
  DS X (.Expr (.Call (.Attribute (.Name x px) "extend" ap) [e] [] cp) pos) (Dm.A5 i f):=
 PS.weak (dX (t_ T5 PySem.F.slot_list_extend PySem.F.type_list_extend G_ (bL hi hv hd PJ) (aa he af hs) Mg hfew Ih hs Py) hsw) fun _ _ _=>OL
theorem Hi(i:Nat){x:Str}{px ap cp:Pos}(he:DE X e f)(hi:X.N[i]?=some x:=by rfl)(hv:Vis X.env.scope x:=by trivial)(hd:(x == ("__debug__" : Str))=false:=by decide)
  (PJ:(x == ("__classdict__" : Str))=false:=by decide) (Mg:attributeBase (.Name x px) "pop" X.env (eval (.Name x px) X.env)=eval (.Name x px) X.env:=by rfl)
  (hfew:((backTo cp (starEach [e] X.env)).all (fun x=>!x.1)&&(backToKw cp (keywordEach [] X.env)).all (fun x=>x.1.isSome)
   && decide ([e].length+([]:List Keyword).length+(if ([]:List Keyword).isEmpty then 0 else 1)<30))=true:=by rfl)
  (Ih:(ap.endLine == cp.line)=true:=by rfl) (hs:starEach [e] X.env=(false,eval e X.env)::starEach [] X.env:=by rfl) (Py:(backTo cp (starEach [] X.env)).any (·.1)=false:=by rfl) :
  DE X (.Call (.Attribute (.Name x px) "pop" ap) [e] [] cp) (Dm.kW i f):=
 PE.weak (t_ T5 PySem.F.slot_list_pop PySem.F.type_list_pop Cc (bL hi hv hd PJ) (aa he af hs) Mg hfew Ih hs Py) fun _ _ _=>Hh
end
end Br
namespace L2
open PySem PySem.Spec PyProof.Rows
section
variable{P:Program}{w:World}{K:gc}{mg:Str->Option Value}{base:Heap}{N:List Str}{qual:Str}{scope:Scope}{f:Addr}{cd:Value}{A:Around}{outer:List Env}{s₀:Shared}{H₀:Hp}{E:XK}{C:Addr}
 {uW:List (Addr×Obj)} {σ:St} {H:Hp} {s:Shared}
end
end L2
namespace Br
open PySem PySem.Spec PyProof.Rows L2
end Br
namespace PySem.W
open PySem PySem.Spec PySem.Calls PyProof.Rows
end PySem.W
namespace PySem
end PySem
namespace PySem.W
open PySem PySem.Spec PySem.Calls PyProof.Rows
end PySem.W
namespace L2
open PySem PySem.Spec PyProof.Rows
end L2
namespace Br
open PySem PySem.Spec PyProof.Rows L2
end Br
namespace Dm
noncomputable abbrev FN:=Env->List (List Dat)->Option (Env×List (List Dat))
noncomputable def nNx:FN:=fun ρ r=>some (ρ,r)
noncomputable def A6(s u:FN):FN:=fun ρ r=>match s ρ r with
 |none=>none
 |some (ρ1,r1)=>u ρ1 r1
noncomputable def nIf(t:FT)(a b:FN):FN:=fun ρ r=>match t ρ with
 |none=>none
 |some (true,ρ1)=>a ρ1 r
 |some (false,ρ1)=>b ρ1 r
noncomputable def xO(i e:FE):FN:=fun ρ r=>match i ρ with
 | some (.val (.int k),ρ1)=>(match ixN r.length k with
  |none=>none
  |some m=>match r[m]? with
   |none=>none
   |some row=>match e ρ1 with
    |none=>none
    |some (x,ρ2)=>match tk ρ2 x with
     |none=>none
     |some (d,ρ3)=>if row.length<SZ then some (ρ3,r.set m (row++[d])) else none)
 |_=>none
noncomputable def gw(bd:FB)(body:FN):List Dat->FN
 |[],ρ,r=>some (ρ,r)
 |d::q,ρ,r=>match bd d ρ with
  |none=>none
  |some ρ1=>match body ρ1 r with
   |none=>none
   |some (ρ2,r2)=>gw bd body q ρ2 r2
noncomputable def qt(it:FI)(bd:FB)(body:FN):FN:=fun ρ r=>match it ρ with
 |none=>none
 |some (ds,ρ1)=>gw bd body ds ρ1 r
noncomputable def nMk(bd:FB):List Dat->Env->Option Env
 |[],ρ=>some ρ
 |d::r,ρ=>match bd d ρ with
  |none=>none
  |some ρ1=>nMk bd r ρ1
noncomputable def nN(j:Nat)(it:FI)(own:Nat)(bd:FB)(Px:FN):FS:=fun ρ=>if j=0 then none else match it ρ with
 |none=>none
 | some (ds,ρ1)=>if ds.length≤SZ then (match nMk bd ds (ρ1++Sv own .un) with
  |none=>none
  |some ρ2=>match Px ((ρ2.take ρ1.length).set j .un) (Sv ds.length []) with
   |none=>none
   |some (ρ3,r)=>some (.nx (ρ3.set j (.ow (.lst (r.map .lst)))))) else none
noncomputable def kY:List Dat->Option RV
 |[.dct ks _]=>if ks.length<=63 then some (.new (.lst ((cU (fun a b=>decide (a<b)) ks).map .int))) else none
 |_=>none
noncomputable def uE:List Dat->Option RV
 |[.dct ks vs]=>some (.new (.dct ks vs))
 |_=>none
noncomputable def fu:List Int->List Dat->Int->List Int
 |k::ks,_::vs,i=>if k=i then fu ks vs i else k::fu ks vs i
 |_,_,_=>[]
noncomputable def fy:List Int->List Dat->Int->List Dat
 |k::ks,v::vs,i=>if k=i then fy ks vs i else v::fy ks vs i
 |_,_,_=>[]
noncomputable def lV(i:Nat)(e:FE):FE:=fun ρ=>match ρ[i]? with
 | some (.ow (.dct _ _))=>(match e ρ with
  | some (.val (.int k),ρ1)=>(match ρ1[i]? with
   | some (.ow (.dct ks vs))=>(match bA ks vs k with
    |some d=>some (.val d,ρ1.set i (.ow (.dct (fu ks vs k) (fy ks vs k))))
    |none=>none)
   |_=>none)
  |_=>none)
 |_=>none
mutual
noncomputable def bX:Dat->Bool
 |.tup xs=>gx xs
 |.lst xs=>gx xs
 |.dct _ _=>false
 |.exc _=>false
 |_=>true
noncomputable def gx:List Dat->Bool
 |[]=>true
 |x::r=>bX x&&gx r
end
noncomputable def tkd(ρ:Env):Val->Option (Dat×Env)
 |.val d=>some (d,ρ)
 |.new d=>some (d,ρ)
 |.slot i=>match ρ[i]? with
  |some (.ow (.dct ks vs))=>some (.dct ks vs,ρ)
  |some (.ow d)=>some (d,ρ.set i (.sh d))
  |some (.sh d)=>some (d,ρ)
  |_=>none
noncomputable def xP(ρ:Env):List Val->Option (List Dat×Env)
 |[]=>some ([],ρ)
 |x::r=>match tkd ρ x with
  |none=>none
  |some (d,ρ1)=>match xP ρ1 r with
   |none=>none
   |some (ds,ρ2)=>some (d::ds,ρ2)
noncomputable def eFd(f:List Dat->Option RV)(as:List FE):FE:=fun ρ=>match eAs as ρ with
 |none=>none
 |some (xs,ρ1)=>match xP ρ1 xs with
  |none=>none
  |some (ds,ρ2)=>match f ds with
   |none=>none
   |some v=>if bX v.dat then some (v.bD,ρ2) else none
noncomputable def j_:Dat->Dat->Option RV
 |.int i,.int j=>if i.natAbs.log2<1000000/\j.natAbs.log2<1000000 then vI (i*j) else none
 |_,_=>none
noncomputable def iC(lo k:Int)(n:Nat):List Dat:=(SH n).map fun i=>Dat.int (lo+(i:Nat)*k)
noncomputable def cL(i j k:Int):Nat:=if i<j then ((j-i-1) / k+1).toNat else 0
noncomputable def iRs(a b c:FE):FI:=fun ρ=>match a ρ with
 | some (.val (.int i),ρ1)=>(match b ρ1 with
  | some (.val (.int j),ρ2)=>(match c ρ2 with
   |some (.val (.int k),ρ3)=>if (0<k/\k<=1000)/\j<=BIG/\-BIG<=j/\i<=BIG/\-BIG<=i then some (iC i k (cL i j k),ρ3) else none
   |_=>none)
  |_=>none)
 |_=>none
noncomputable def kZ:List Val->Option (List Dat)
 |[]=>some []
 |.val d::r=>(kZ r).map fun ds=>d::ds
 |_=>none
noncomputable def eFn(f:List Dat->Option (RV×Dat))(e0:FE)(as:List FE):FE:=fun ρ=>match eAs (e0::as) ρ with
 | some (.new d::xs,ρ1)=>(match kZ xs with
  |none=>none
  |some ds=>match f (d::ds) with
   |none=>none
   |some (v,_)=>some (v.bD,ρ1))
 |_=>none
end Dm
namespace Br
open PySem PySem.Spec PyProof.Rows L2
section
variable{H0 H:Hp}{rows:List (List Dm.Dat)}{ps:List Addr}{H0s Hs:Hp}{ρs:Dm.Env}{σs:L2.St}{ρ ρ':Dm.Env}{j:Nat}{σ:L2.St}{b:Addr}
def aN(H0 H:Hp):List Addr->List (List Dm.Dat)->Prop
 |[],[]=>True
 |p::ps,r::rs=>(∃xs,H p=some (.lst xs)/\az H0 xs r)/\aN H0 H ps rs
 |_,_=>False
theorem aN.len:∀{ps:List Addr} {rs:List (List Dm.Dat)},aN H0 H ps rs->ps.length=rs.length
 |[],[],_=>rfl
 |_::_,_::_,h=>by simp[aN.len h.2]
theorem aN.get:∀{ps:List Addr} {rs:List (List Dm.Dat)} {i:Nat} {r:List Dm.Dat},aN H0 H ps rs->rs[i]?=some r->∃p xs,ps[i]?=some p/\H p=some (.lst xs)/\az H0 xs r
 |[],[],_,_,_,e=>by simp at e
 |p::_,_::_,0,_,h,e=>by simp at e;subst e;obtain⟨xs,h1,h2⟩:=h.1;exact⟨p,xs,rfl,h1,h2⟩
 |_::_,_::_,i+1,_,h,e=>by obtain⟨p,xs,h1,h2⟩:=aN.get (i:=i) h.2 (by simpa using e);exact⟨p,xs,by simpa using h1,h2⟩
theorem aN.mono{H0 H H0' H':Hp}:∀{ps:List Addr} {rs:List (List Dm.Dat)},aN H0 H ps rs->ak H0 H0'->(∀p∈ps,H' p=H p)->aN H0' H' ps rs
 |[],[],_,_,_=>trivial
 |p::ps,r::rs,h,s,k=>by obtain⟨⟨xs,h1,h2⟩,h3⟩:=h;exact⟨⟨xs,by rw[k p Sw];exact h1,h2.mono s⟩,aN.mono h3 s fun q hq=>k q (Sy _ hq)⟩
theorem aN.set{p:Addr}{xs:List V}{r:List Dm.Dat}(w:az H0 xs r):∀{ps:List Addr} {rs:List (List Dm.Dat)} {i:Nat},aN H0 H ps rs->ps.Nodup->ps[i]?=some p->aN H0 (upd H p (.lst xs)) ps (rs.set i r)
 |[],[],_,_,_,e=>by simp at e
 |q::ps,_::rs,0,h,n,e=>by simp at e;subst e;refine⟨⟨xs,ao,w⟩,h.2.mono (ak.refl _) fun y hy=>aq fun z=>?_⟩;subst z;exact(SV.mp n).1 hy
 |q::ps,_::rs,i+1,h,n,e=>by
  have e':ps[i]?=some p:=by simpa using e
  obtain⟨⟨ys,h1,h2⟩,h3⟩:=h;obtain⟨n1,n2⟩:=SV.mp n;refine⟨⟨ys,?_,h2⟩,aN.set w h3 n2 e'⟩;rw[aq fun z=>?_]
  ·exact h1
  ·subst z;exact n1 (UA e')
theorem aN.some:∀{ps:List Addr} {rs:List (List Dm.Dat)},aN H0 H ps rs->∀p∈ps,∃o,H p=some o
 |[],[],_,_,h=>by cases h
 |q::ps,_::rs,h,p,hp=>by
  rcases SD.mp hp with rfl | hp
  ·obtain⟨xs,h1,_⟩:=h.1;exact⟨_,h1⟩
  ·exact aN.some h.2 p hp
structure NS(j:Nat)(σs:L2.St)(ρs:Dm.Env)(H0s Hs:Hp)(σ:L2.St)(ρ:Dm.Env)(H0 H:Hp)(rows:List (List Dm.Dat)):Prop where
 st:av H0 H σ ρ
 stp:Stp (ai σs ρs) H0s Hs H0 H
 own:∀a,ai σ ρ a->ai σs ρs a\/Hs a=none
 fx:σ[0]?=σs[0]?
 ex:∃(L:Addr) (ps:List Addr),σ[j]?=some (some (.ref L))/\Hs L=none/\H0 L=none/\¬ai σ ρ L/\H L=some (.lst (ps.map V.ref))/\(L::ps).Nodup/\(∀p∈ps,Hs p=none/\H0 p=none/\¬ai σ ρ p)/\aN H0 H ps rows
theorem NS.est{H0 H H0' H':Hp}(n:NS j σs ρs H0s Hs σ ρ H0 H rows)(t:ESt σ ρ H0 H ρ' H0' H'):NS j σs ρs H0s Hs σ ρ' H0' H' rows:=by
 obtain⟨L,ps,h1,h2,h3,h4,h5,h6,h7,h8⟩:=n.ex;obtain⟨k1,k2,k3⟩:=t.bR h5 h3 h4;refine⟨t.st,n.stp.trans t.stp n.own,fun a z=>n.own a (t.own a z),n.fx,L,ps,h1,h2,k2,k3,k1,h6,fun p hp=>?_,h8.mono t.stp.s0 fun p hp=>?_⟩
 ·obtain⟨q1,q2,q3⟩:=h7 p hp;obtain⟨o,q4⟩:=h8.some p hp;obtain⟨z1,z2,z3⟩:=t.bR q4 q2 q3;exact⟨q1,z2,z3⟩
 ·obtain⟨q1,q2,q3⟩:=h7 p hp;obtain⟨o,q4⟩:=h8.some p hp;obtain⟨z1,z2,z3⟩:=t.bR q4 q2 q3;rw[z1,q4]
theorem NS.bind{σ σ':L2.St}(n:NS j σs ρs H0s Hs σ ρ H0 H rows)(st:av H0 H σ' ρ')(o:∀a,ai σ' ρ' a->ai σ ρ a)(hj:σ'[j]?=σ[j]?)(h0:σ'[0]?=σ[0]?):NS j σs ρs H0s Hs σ' ρ' H0 H rows:=by obtain⟨L,ps,h1,h2,h3,h4,h5,h6,h7,h8⟩:=n.ex;exact⟨st,n.stp,fun a z=>n.own a (o a z),h0.trans n.fx,L,ps,hj.trans h1,h2,h3,fun z=>h4 (o L z),h5,h6,fun p hp=>⟨(h7 p hp).1,(h7 p hp).2.1,fun z=>(h7 p hp).2.2 (o p z)⟩,h8⟩
noncomputable def uF(H0 H:Hp)(ps:List Addr):Hp:=fun b=>if b∈ps then H b else H0 b
theorem sD(h:b∈ps):uF H0 H ps b=H b:=by unfold uF;rw[if_pos h]
theorem gy(h:b∉ps):uF H0 H ps b=H0 b:=by unfold uF;rw[if_neg h]
theorem A7(s:ak H0 H):ak H0 (uF H0 H ps):=fun b o e=>by
 by_cases q:b∈ps
 ·rw[sD q];exact s _ _ e
 ·rw[gy q];exact e
theorem C6(s:ak H0 H):ak (uF H0 H ps) H:=fun b o e=>by
 by_cases q:b∈ps
 ·rw[sD q]at e;exact e
 ·rw[gy q]at e;exact s _ _ e
theorem aN.reps{H0 H H1:Hp}:∀{ps:List Addr} {rs:List (List Dm.Dat)},aN H0 H ps rs->ak H0 H1->(∀p∈ps,H1 p=H p)->az H1 (ps.map V.ref) (rs.map Dm.Dat.lst)
 |[],[],_,_,_=>.nil
 |p::ps,r::rs,h,s,k=>by obtain⟨⟨xs,h1,h2⟩,h3⟩:=h;exact .cons (.lst (.inl ((k p Sw).trans h1)) (h2.mono s)) (aN.reps h3 s fun q hq=>k q (Sy _ hq))
theorem NS.done{ρ:Dm.Env}(n:NS j σs ρs H0s Hs σ ρ H0 H rows):∃H0',SSt σs ρs H0s Hs σ (ρ.set j (.ow (.lst (rows.map Dm.Dat.lst)))) H0' H:=by
 obtain⟨L,ps,h1,h2,h3,h4,h5,h6,h7,h8⟩:=n.ex;obtain⟨n1,n2⟩:=SV.mp h6;have ss:=A7 (ps:=ps) n.st.same;have st:av (uF H0 H ps) H σ ρ:={
  same:=C6 n.st.same
  len:=n.st.len
  sh:=fun i d h=>by obtain⟨v,z,r⟩:=n.st.sh i d h;exact⟨v,z,r.mono ss⟩
  ow:=fun i d h=>by obtain⟨b,z,q,w⟩:=n.st.ow i d h;have nb:b∉ps:=fun y=>(h7 b y).2.2 ⟨i,d,h,z⟩;exact⟨b,z,by rw[gy nb];exact q,w.mono ss rfl⟩
  dis:=n.st.dis }
 refine⟨uF H0 H ps,st.kU h1 h4 (by rw[gy n1];exact h3) ⟨_,h5,h8.reps ss fun p hp=>sD hp⟩,⟨n.stp.s0.trans ss,n.stp.s1,fun a o e=>?_,n.stp.s3⟩,fun a z=>?_,n.fx⟩
 ·by_cases q:a∈ps
  ·exact .inl (h7 a q).1
  ·rw[gy q]at e;exact n.stp.s2 a o e
 ·obtain⟨i,d,z1,z2⟩:=z;by_cases q:j=i
  ·subst q;rw[h1]at z2;cases z2;exact .inr h2
  ·rw[eg q]at z1;exact n.own a ⟨i,d,z1,z2⟩
def tDN(j:Nat)(f:Dm.FN):TS:=fun D σ H=>∃σs ρs H0s Hs H0 ρ rows ρ' rows',NS j σs ρs H0s Hs σ ρ H0 H rows/\f ρ rows=some (ρ',rows')/\∀σ' H0' H',NS j σs ρs H0s Hs σ' ρ' H0' H' rows'->ak H0 H0'->D.nx σ' H'
end
section
variable{D:Ends}{σ:L2.St}{H:Hp}{j:Nat}
theorem OO(h:tDN j Dm.nNx D σ H):qB D σ H:=by obtain⟨σs,ρs,H0s,Hs,H0,ρ,rows,ρ',rows',n,e,k⟩:=h;cases e;exact k σ H0 H n (ak.refl _)
theorem LD{s u:Dm.FN}(h:tDN j (Dm.A6 s u) D σ H):fU (tDN j s) (tDN j u) D σ H:=by
 obtain⟨σs,ρs,H0s,Hs,H0,ρ,rows,ρ',rows',n,e,k⟩:=h;unfold Dm.A6 at e;split at e
 ·cases e
 rename_i ρ1 r1 e1;exact⟨σs,ρs,H0s,Hs,H0,ρ,rows,ρ1,r1,n,e1,fun σ' H0' H' n' s1=>⟨σs,ρs,H0s,Hs,H0',ρ1,r1,ρ',rows',n',e,fun σ2 H2 Hc n2 s2=>k σ2 H2 Hc n2 (s1.trans s2)⟩⟩
theorem OP{t:Dm.FT}{a b:Dm.FN}(h:tDN j (Dm.nIf t a b) D σ H):Av (tDT t) (tDN j a) (tDN j b) D σ H:=by
 obtain⟨σs,ρs,H0s,Hs,H0,ρ,rows,ρ',rows',n,e,k⟩:=h;unfold Dm.nIf at e;split at e
 ·cases e
 ·rename_i ρ1 e1;refine⟨H0,ρ,true,ρ1,n.st,e1,fun H1 Hb t1=>?_⟩;dsimp only;rw[if_pos rfl];exact⟨σs,ρs,H0s,Hs,H1,ρ1,rows,ρ',rows',n.est t1,e,fun σ2 H2 Hc n2 s2=>k σ2 H2 Hc n2 (t1.stp.s0.trans s2)⟩
 ·rename_i ρ1 e1;refine⟨H0,ρ,false,ρ1,n.st,e1,fun H1 Hb t1=>?_⟩;dsimp only;rw[if_neg S3];exact⟨σs,ρs,H0s,Hs,H1,ρ1,rows,ρ',rows',n.est t1,e,fun σ2 H2 Hc n2 s2=>k σ2 H2 Hc n2 (t1.stp.s0.trans s2)⟩
theorem LF{fi:Dm.FI}{bd:Dm.FB}{g:TG}{body:Dm.FN}{is:List Nat}(hb:BD is g bd)(hj:j∉is)(h:tDN j (Dm.qt fi bd body) D σ H):BZ (tDI fi) g (tDN j body) D σ H:=by
 obtain⟨σs,ρs,H0s,Hs,H0,ρ,rows,ρ',rows',n,e,k⟩:=h;unfold Dm.qt at e;split at e
 ·cases e
 rename_i ys ρ1 e1;refine⟨H0,ρ,ys,ρ1,n.st,e1,fun J H00 Hb t1 jw=>?_⟩;refine ⟨fun i m σ H=>∃ H0 ρ rows,NS j σs ρs H0s Hs σ ρ H0 H rows∧ak H00 H0∧m=ys.length-i∧i≤ys.length∧Dm.gw bd body (ys.drop i) ρ rows=some (ρ',rows'),
  ⟨ys.length,H00,ρ1,rows,n.est t1,ak.refl _,by simp,S6 _,by simpa using e⟩,?_⟩
 rintro i m σ H ⟨H0,ρ,rows,n,s00,rfl,hi,e⟩;obtain⟨js,jg⟩:=jw H0 H s00 n.st.same;by_cases HY:i<ys.length
 ·have hd:ys[i]?=some ys[i]:=by simp[HY]
  obtain⟨g1,g2⟩:=jg i ys[i] hd;rw[TX HY]at e;unfold Dm.gw at e;refine .inr ⟨g1,fun σ' H'=>∃H0 ρ rows,NS j σs ρs H0s Hs σ' ρ H0 H' rows/\ak H00 H0/\Dm.gw bd body (ys.drop (i+1)) ρ rows=some (ρ',rows'),?_,fun x H' y=>?_⟩
  ·rintro σ' H' ⟨H0',ρ2,r2,h1,h2,h3⟩;exact⟨ys.length-(i+1),by omega,H0',ρ2,r2,h1,h2,rfl,HY,h3⟩
  ·obtain⟨H0',gr,rx⟩:=g2 x H' y;split at e
   ·cases e
   ·rename_i ρ2 e2;have t2:=ESt.grow n.st gr;have n2:=n.est t2;refine hb H0' H' σ ρ ρ2 x ys[i] _ t2.st rx e2 fun σ2 st2 o2 k2 _ f2=>?_;have n3:=n2.bind st2 o2 (k2 j hj) f2;have s3:ak H00 H0':=s00.trans gr.s0;split at e
    ·cases e
    ·rename_i ρ3 r3 e3;refine⟨σs,ρs,H0s,Hs,H0',ρ2,rows,ρ3,r3,n3,e3,fun σ4 H4 Hd n4 s4=>⟨H4,ρ3,r3,n4,s3.trans s4,e⟩⟩
 ·have e':i=ys.length:=by omega
  subst e';rw[Up]at e;cases e;exact .inl ⟨js _ (SA _),k σ H0 H n (t1.stp.s0.trans s00)⟩
theorem LG{K:gc}{fi f:Dm.FE}(h:tDN j (Dm.xO fi f) D σ H):jJ (tBM K "list" mF (tOp (KC K) (fT j) (tD fi)) (tDA [f])) D σ H:=by
 obtain⟨σs,ρs,H0s,Hs,H0,ρ,rows,ρ',rows',n,e,k⟩:=h;unfold Dm.xO at e;split at e
 case h_2=>cases e
 rename_i z ρ1 e1;split at e
 ·cases e
 rename_i m em;split at e
 ·cases e
 rename_i row er;split at e
 ·cases e
 rename_i x ρ2 e2;split at e
 ·cases e
 rename_i d ρ3 e3;split at e
 case isFalse=>cases e
 rename_i hz;cases e;obtain⟨L,ps0,h1,_⟩:=n.ex;refine⟨_,h1,H0,ρ,_,ρ1,n.st,e1,fun y H1 Hb t1 r1=>?_⟩;have n1:=n.est t1;obtain⟨L',ps,q1,q2,q3,q4,q5,q6,q7,q8⟩:=n1.ex;rw[h1]at q1;cases q1;obtain⟨q,xs,hq,hqx,hqr⟩:=q8.get er;have hqm:q∈ps:=UA hq;refine⟨L,ps.map V.ref,z,V.ref q,rfl,Rep.isInt r1,.inl (.inl q5),?_,.inl ⟨rfl,xs,.inl (.inl hqx)⟩,?_⟩
 ·show (L2.ixN (ps.map V.ref).length z).bind (fun j=>(ps.map V.ref)[j]?)=_;rw[Ss,q8.len,<- xB,em];show (ps.map V.ref)[m]?=_;rw[SS,hq];rfl
 refine⟨H1,ρ1,[x],ρ2,n1.st,by unfold Dm.eAs;rw[e2];rfl,fun vs H2 Hc t2 r2=>?_⟩;cases r2 with
 |cons r rr=>
  cases rr;obtain⟨H3,t3,b3,r3,_,_⟩:=take1 t2 (ak.refl _) r e3;have n3:=n1.est t3;obtain⟨L',ps',w1,w2,w3,w4,w5,w6,w7,w8⟩:=n3.ex;rw[h1]at w1;cases w1;obtain⟨k1,_,_⟩:=t3.bR q5 q3 q4;rw[k1]at w5;have ep:ps'=ps:=by
   have:ps.map V.ref=ps'.map V.ref:=by injection w5 with z;injection z
   exact((List.map_inj_right fun a b h=>by injection h).mp this).symm
  subst ep;obtain⟨q',ys,hq',hqy,OQ⟩:=w8.get er;rw[hq]at hq';cases hq';have nL:L≠q:=fun z=>(SV.mp w6).1 (z▸hqm);refine⟨q,ys,_,rfl,rfl,hqy,by rw[OQ.length];exact SX hz (by decide),?_⟩;obtain⟨z1,z2,z3⟩:=w7 q hqm;refine k σ H3 _ ⟨n3.st.aside z2 z3,n3.stp.aside z1,n3.own,n3.fx,L,ps',h1,w2,w3,w4,by rw[aq nL];exact k1,w6,w7,aN.set (OQ.append (.cons r3 .nil)) w8 (SV.mp w6).2 hq⟩ (t1.stp.s0.trans t3.stp.s0)
end
section
variable{bd:Dm.FB}{is:List Nat}{Px:Dm.FN}{j own:Nat}{ρ:Dm.Env}{fi:Dm.FI}{σ:L2.St}{g:TG}
theorem C7{own:Nat}{Q:VK}{H00 Hb:Hp}{ρ1 ρ2:Dm.Env}{ds:List Dm.Dat}{J:It}(hb:BD is g bd)(hl:∀i∈is,σ.length<=i)
  (st1:av H00 Hb σ ρ1) (jw:JW J H00 ds) (hsz:ds.length<=Dm.SZ) (e2:Dm.nMk bd ds (ρ1++Sv own .un)=some ρ2) (D:Addr) (hD:Hb D=none)
  (k:∀ H0' H' (ps:List Addr),av H0' H' σ (ρ2.take ρ1.length)→Stp (ai σ ρ1) H00 Hb H0' H'→(∀ a,ai σ (ρ2.take ρ1.length) a→ai σ ρ1 a)→H' D=some (.lst (ps.map V.ref))→H0' D=none→(D::ps).Nodup→(∀ p∈ps,Hb p=none∧H0' p=none) →
   aN H0' H' ps (Sv ds.length [])->Q (.ref D) H') :
  ∃W:Nat->Nat->L2.St->Hp->Prop,(∃m,W 0 m (σ++Sv own none) (upd Hb D (.lst [])))/\∀i m σ' H',W i m σ' H' ->
  (J.stop i H'∧Q (.ref D) H')∨(J.go i H'∧∀ x H2,J.yld i H' x H2→g x σ' H2 fun σ2 H3=>GI σ2 H3 fun b H4=>if b=true
   then B7 kI σ2 H4 fun y H5=>∃En,H5 D=some (.lst En)/\En.length<sizeLine/\∃m',m'<m/\W (i+1) m' σ2 (upd H5 D (.lst (En++[y])))
   else ∃m',m'<m/\W (i+1) m' σ2 H4):=by
 have noD:¬ai σ ρ1 D:=st1.bh hD;refine ⟨fun i m σ' H'=>∃ (H0c:Hp) (ρc:Dm.Env) (ps:List Addr),av H0c H' σ' ρc∧ak H00 H0c∧m=ds.length-i∧i≤ds.length∧Dm.nMk bd (ds.drop i) ρc=some ρ2 ∧
  H' D=some (.lst (ps.map V.ref))/\ps.length=i/\H0c D=none/\(D::ps).Nodup/\(∀p∈ps,Hb p=none/\H0c p=none)/\aN H0c H' ps (Sv i [])/\Stp (ai σ ρ1) H00 Hb H0c H'/\(∀j,j<σ.length->σ'[j]?=σ[j]?)/\(∀a,ai σ' ρc a->ai σ ρ1 a),
  ⟨ds.length,H00,ρ1++Sv own .un,[],(st1.aside (st1.same.free hD) noD).ext own,ak.refl _,by simp,S6 _,by simpa using e2,ao,rfl,st1.same.free hD,by simp,by simp,trivial,(Stp.refl _ _ _).aside hD,
   fun j hj=>SM hj,fun a z=>kP st1 z⟩,?_⟩
 rintro i m σ' H' ⟨H0c,ρc,ps,sc,s00,rfl,hi,ec,hDl,HL,n0,nd,hps,hro,sp,hσ,ho⟩;have nOc:¬ai σ' ρc D:=fun z=>noD (ho D z);have nOp:∀p∈ps,¬ai σ' ρc p:=fun p hp z=>st1.bh (hps p hp).1 (ho p z);obtain⟨js,jg⟩:=jw H0c H' s00 sc.same;by_cases HY:i<ds.length
 ·have hd:ds[i]?=some ds[i]:=by simp[HY]
  obtain⟨g1,g2⟩:=jg i ds[i] hd;rw[TX HY]at ec;unfold Dm.nMk at ec;refine .inr ⟨g1,fun y H2 yy=>?_⟩;obtain⟨H0',gr,rx⟩:=g2 y H2 yy;split at ec
  ·cases ec
  rename_i ρ3 e3;have t2:=ESt.grow sc gr;obtain⟨hD2,n02,no2⟩:=t2.bR hDl n0 nOc;refine hb H0' H2 σ' ρc ρ3 y ds[i] _ t2.st rx e3 fun σ3 st3 o3 k3 d3 _=>?_;unfold GI;dsimp only;rw[if_pos rfl];refine⟨S6 _,fun p hp=>?_⟩;have hpD:p≠D:=fun z=>by rw[z,hD2]at hp;cases hp
  have noP:¬ai σ3 ρ3 p:=st3.bh hp;have OR:∀q∈ps,q≠p:=fun q hq z=>by obtain⟨o,h1⟩:=hro.some q hq;have:=gr.s1 q o h1;rw[z,hp]at this;cases this
  refine⟨ps.map V.ref,by rw[aq (Ne.symm hpD)];exact hD2,?_,ds.length-(i+1),by omega,H0',ρ3,ps++[p],?_,s00.trans gr.s0,rfl,HY,ec,?_,by simp[HL],n02,?_,?_,?_,?_,?_,?_⟩
  ·rw[Ss,HL];unfold Dm.SZ at hsz;exact SX (SX HY hsz) (by decide)
  ·have no3:¬ai σ3 ρ3 D:=fun z=>no2 (o3 D z);exact(st3.aside (st3.same.free hp) noP).aside n02 no3
  ·rw[ao,S0];rfl
  ·rw[<- UZ];refine Tv.mpr ⟨nd,by simp,fun a ha b hb=>?_⟩;rw[SY.mp hb];rcases SD.mp ha with rfl | ha
   ·exact Ne.symm hpD
   ·exact OR a ha
  ·intro q hq;rcases S4.mp hq with hq | hq
   ·refine⟨(hps q hq).1,?_⟩;obtain⟨o,h1⟩:=hro.some q hq;exact(t2.bR h1 (hps q hq).2 (nOp q hq)).2.1
   ·rw[SY.mp hq];exact⟨(sp.trans t2.stp fun a z=>.inl (ho a z)).gone hp,st3.same.free hp⟩
  ·have base:aN H0' (upd (upd H2 p (.lst [])) D (.lst (ps.map V.ref++[V.ref p]))) ps (Sv i []):=hro.mono gr.s0 fun q hq=>by
    have hqD:q≠D:=fun z=>(SV.mp nd).1 (z▸hq);obtain⟨o,h1⟩:=hro.some q hq;rw[aq hqD,aq (OR q hq),gr.s1 q o h1,h1]
   have app:∀{H0 H:Hp} {ps:List Addr} {rs:List (List Dm.Dat)} {p:Addr},aN H0 H ps rs->H p=some (.lst [])->aN H0 H (ps++[p]) (rs++[[]]):=by
    intro H0 H ps rs p h1 h2
    induction ps generalizing rs with
    |nil=>cases rs with
     |nil=>exact⟨⟨[],h2,.nil⟩,trivial⟩
     |cons _ _=>exact h1.elim
    |cons q ps ih=>cases rs with
     |nil=>exact h1.elim
     |cons r rs=>exact⟨h1.1,ih h1.2⟩
   have:=app base (p:=p) (by rw[aq hpD,ao]);rw[List.replicate_succ'];exact this
  ·exact((sp.trans t2.stp fun a z=>.inl (ho a z)).aside ((sp.trans t2.stp fun a z=>.inl (ho a z)).gone hp)).aside hD
  ·exact fun j hj=>(k3 j fun z=>UC.mpr (hl j z) hj).trans (hσ j hj)
  ·exact fun a z=>ho a (o3 a z)
 ·have e':i=ds.length:=by omega
  subst e';rw[Up]at ec;cases ec;refine .inl ⟨js _ (SA _),k H0c H' ps ?_ sp ?_ hDl n0 nd hps hro⟩
  all_goals
   have Fd:σ.length<=ρ2.length:=by rw[<- sc.len];refine UC.mp fun z=>?_;have q:=hσ σ'.length z;rw[Tj (SA _),SK z]at q;cases q
   have tk:∀{j:Nat} {c:Dm.Cell},(ρ2.take ρ1.length)[j]?=some c->j<σ.length/\ρ2[j]?=some c:=fun {j c} h=>by
    have hj:j<ρ1.length:=by have:=(Su.mp h).1;rw[TJ]at this;omega
    rw[UG hj]at h;exact⟨by rw[st1.len];exact hj,h⟩
  ·refine⟨sc.same,?_,fun j d h=>?_,fun j d h=>?_,fun j j' d d' a h1 h2 h3 h4=>?_⟩
   ·rw[TJ,<- st1.len];omega
   ·obtain⟨hj,h⟩:=tk h;obtain⟨v,q,r⟩:=sc.sh j d h;exact⟨v,(hσ j hj).symm.trans q,r⟩
   ·obtain⟨hj,h⟩:=tk h;obtain⟨v,q,r⟩:=sc.ow j d h;exact⟨v,(hσ j hj).symm.trans q,r⟩
   ·obtain⟨hj,h1⟩:=tk h1;obtain⟨hj',h2⟩:=tk h2;exact sc.dis j j' d d' a h1 h2 ((hσ j hj).trans h3) ((hσ j' hj').trans h4)
  ·intro a ⟨j,d,h1,h2⟩;obtain⟨hj,h1⟩:=tk h1;exact ho a ⟨j,d,h1,(hσ j hj).trans h2⟩
theorem qS{z:Dm.Out}(q:Dm.nN j fi own bd Px ρ=some z):∃ds ρ1 ρ2 ρ3 r3,j≠0/\fi ρ=some (ds,ρ1)/\ds.length<=Dm.SZ/\Dm.nMk bd ds (ρ1++Sv own .un)=some ρ2 /\
  Px ((ρ2.take ρ1.length).set j .un) (Sv ds.length [])=some (ρ3,r3)/\z=.nx (ρ3.set j (.ow (.lst (r3.map .lst)))):=by
 unfold Dm.nN at q;split at q
 ·cases q
 rename_i hj0;split at q
 ·cases q
 rename_i ds ρ1 e1;split at q
 case isFalse=>cases q
 rename_i hsz;split at q
 ·cases q
 rename_i ρ2 e2;split at q
 ·cases q
 rename_i ρ3 r3 e3;cases q;exact⟨ds,ρ1,ρ2,ρ3,r3,hj0,e1,hsz,e2,e3,rfl⟩
theorem Hj{s u:Dm.FS}{o:Dm.Out}(hs:∀z,s ρ=some z->∃ρ',z=.nx ρ')(e:Dm.aC s u ρ=some o):∃ρ1,s ρ=some (.nx ρ1)/\u ρ1=some o:=by
 cases q:s ρ with
 |none=>unfold Dm.aC at e;rw[q]at e;cases e
 |some z=>obtain⟨ρ1,rfl⟩:=hs z q;unfold Dm.aC at e;rw[q]at e;exact⟨ρ1,rfl,e⟩
theorem LH{H:Hp}{D:Ends}{gs:Dm.FS}(hb:BD is g bd)(hl:∀i∈is,σ.length<=i)(hj:j<σ.length)(h:tDS (Dm.aC (Dm.nN j fi own bd Px) gs) D σ H) :
  fU (jK (tLC (tDI fi) own g GI (B7 kI)) (cH j)) (fU (tDN j Px) (tDS gs)) D σ H:=by
 obtain⟨H0,ρ,o,st,e,k⟩:=h;obtain⟨ρ9,e9,e⟩:=Hj (fun z q=>by obtain⟨_,_,_,_,_,_,_,_,_,_,z⟩:=qS q;exact⟨_,z⟩) e;obtain⟨ds,ρ1,ρ2,ρ3,r3,hj0,e1,hsz,e2,e3,z9⟩:=qS e9;cases z9;refine⟨H0,ρ,ds,ρ1,st,e1,fun J H00 Hb t1 jw L hL=>C7 (Q:=fun x H1=>cH j x σ H1 (fU (tDN j Px) (tDS gs) D)) hb hl t1.st jw hsz e2 L hL fun H0' H' ps st' sp' ho' hDl n0 nd hps hro=>?_⟩;have nL:¬ai σ ρ1 L:=t1.st.bh hL;have om:∀a,ai (σ.set j (some (.ref L))) ((ρ2.take ρ1.length).set j .un) a->ai σ (ρ2.take ρ1.length) a:=fun a ⟨i,d,h1,h2⟩=>by
  rcases aJ h1 with⟨_,z⟩ | ⟨hij,h1⟩
  ·cases z
  ·rw[eg (Ne.symm hij)]at h2;exact⟨i,d,h1,h2⟩
 have st2:av H0' H' (σ.set j (some (.ref L))) ((ρ2.take ρ1.length).set j .un):={
  same:=st'.same
  len:=by rw[Td,Td];exact st'.len
  sh:=fun i d h=>by
   rcases aJ h with⟨_,z⟩ | ⟨hij,h⟩
   ·cases z
   ·obtain⟨v,q,r⟩:=st'.sh i d h;exact⟨v,by rw[eg (Ne.symm hij)];exact q,r⟩
  ow:=fun i d h=>by
   rcases aJ h with⟨_,z⟩ | ⟨hij,h⟩
   ·cases z
   ·obtain⟨v,q,r⟩:=st'.ow i d h;exact⟨v,by rw[eg (Ne.symm hij)];exact q,r⟩
  dis:=fun i i' d d' a h1 h2 h3 h4=>by
   rcases aJ h1 with⟨_,z⟩ | ⟨q1,h1⟩
   ·cases z
   rcases aJ h2 with⟨_,z⟩ | ⟨q2,h2⟩
   ·cases z
   rw[eg (Ne.symm q1)]at h3;rw[eg (Ne.symm q2)]at h4;exact st'.dis i i' d d' a h1 h2 h3 h4 }
 have sp:Stp (ai σ ρ) H0 H H0' H':=t1.stp.trans sp' fun a z=>.inl (t1.own a z);have n:NS j σ ρ H0 H (σ.set j (some (.ref L))) ((ρ2.take ρ1.length).set j .un) H0' H' (Sv ds.length []):=
  ⟨st2,sp,fun a z=>.inl (t1.own a (ho' a (om a z))),eg hj0,L,ps,SR hj,t1.stp.gone hL,n0,fun z=>nL (ho' L (om L z)),hDl,nd,fun p hp=>⟨t1.stp.gone (hps p hp).1,(hps p hp).2,fun z=>t1.st.bh (hps p hp).1 (ho' p (om p z))⟩,hro⟩
 refine⟨σ,ρ,H0,H,H0',_,_,ρ3,r3,n,e3,fun σ4 H4 Hd n4 _=>?_⟩;obtain⟨H5,t5⟩:=n4.done;exact⟨H5,_,o,t5.st,e,k.pre t5⟩
noncomputable abbrev DN(X:Cx)(j:Nat)(st:Stmt)(f:Dm.FN):Prop:=PS X st (tDN j f)
noncomputable abbrev DNs(X:Cx)(j:Nat)(st:List Stmt)(f:Dm.FN):Prop:=PSs X st (tDN j f)
end
section
variable{X:Cx}{st:Stmt}{uX:List Stmt}{fs gs:Dm.FN}{e c:Expr}{f:Dm.FE}{pos:Pos}{j:Nat}
section
variable{is:List Nat}{bd:Dm.FB}{fi:Dm.FI}
theorem OS:DNs X j [] Dm.nNx:=PSs.weak jI fun _ _ _=>OO
theorem LI(h1:DN X j st fs)(h2:DNs X j uX gs):DNs X j (st::uX) (Dm.A6 fs gs):=PSs.weak (aY h1 h2) fun _ _ _=>LD
theorem Je(h1:DN X j st fs):DNs X j [st] fs:=cQ h1
theorem Rr{t:Dm.FT}{x y:List Stmt}(ht:DT X c t)(ha:DNs X j x fs)(hb:DNs X j y gs):DN X j (.If c x y pos) (Dm.nIf t fs gs):=PS.weak (tX ht ha hb) fun _ _ _=>OP
theorem Jf{tg it:Expr}{body:List Stmt}(hp:PassesOwn (model X.prog X.w) X.A X.env X.xe)(hc:X.calm=true)(hi:DI X tg it fi)(hg:TG' X tg is bd)(hb:DNs X j body fs)(hj:decide (j∈is)=false:=by rfl)
  (hs:∀x,foldedSetIterable it X.env x=pure x:=by intro _;rfl):DN X j (.For tg it body [] pos) (Dm.qt fi bd fs):=by
 obtain⟨g,h1,h2⟩:=hg.ex;exact PS.weak (rR hp hc hi h1 hb hs) fun _ _ _=>LF h2 (of_decide_eq_false hj)
theorem Jg{x:Str}{i:Expr}{fi:Dm.FE}{px sp ap cp:Pos}(hi':DE X i fi)(he:DE X e f)(hi:X.N[j]?=some x:=by rfl)(hv:Vis X.env.scope x:=by trivial)(hd:(x == ("__debug__" : Str))=false:=by decide)
  (PJ:(x == ("__classdict__" : Str))=false:=by decide) (HL:fh i:=by intro _ _;rfl) (Mg:attributeBase (.Subscript (.Name x px) i sp) "append" X.env (eval (.Subscript (.Name x px) i sp) X.env)=eval (.Subscript (.Name x px) i sp) X.env:=by rfl)
  (hfew:((backTo cp (starEach [e] X.env)).all (fun x=>!x.1)&&(backToKw cp (keywordEach [] X.env)).all (fun x=>x.1.isSome)
   && decide ([e].length+([]:List Keyword).length+(if ([]:List Keyword).isEmpty then 0 else 1)<30))=true:=by rfl)
  (Ih:(ap.endLine == cp.line)=true:=by rfl) (hs:starEach [e] X.env=(false,eval e X.env)::starEach [] X.env:=by rfl) (Py:(backTo cp (starEach [] X.env)).any (·.1)=false:=by rfl)
  (hsw:swapsWith (.Call (.Attribute (.Subscript (.Name x px) i sp) "append" ap) [e] [] cp) none pos.line X.env=pure false:=by rfl) :
  DN X j (.Expr (.Call (.Attribute (.Subscript (.Name x px) i sp) "append" ap) [e] [] cp) pos) (Dm.xO fi f):=
 PS.weak (dX (t_ T5 U9 Va gO (qG yR (bL hi hv hd PJ) hi' HL) (aa he af hs) Mg hfew Ih hs Py) hsw) fun _ _ _=>LG
theorem LJ(j:Nat)(nm own:List Str){y:Str}{py PL xQ:Pos}{tg iter:Expr}{scope:Scope}{Px:Dm.FN}{gs:Dm.FS}{lst:Stmt}(hN:X.N.Nodup)(hg:TGc X nm scope own tg is bd)(hi:DI X tg iter fi)(hlp:DN X j lst Px)(hre:DSs X uX gs)
  (hc:X.calm=true:=by rfl) (hk:scope.kind=.function:=by rfl) (hS:nF X.env.scope X.N nm scope=true:=by rfl) (hl:(is.all fun i=>decide (X.N.length<=i))=true:=by rfl) (hj:X.N[j]?=some y:=by rfl) (hy:Loc X.env.scope y:=by trivial)
  (hsw:swapsWith (.ListComp (.List [] xQ) [⟨tg,iter,[],0⟩] scope pos) (some (.Name y py)) PL.line X.env=pure true:=by rfl) (hs:∀y,foldedSetIterable iter X.env y=pure y:=by intro _;rfl)
  (hf:X.fn y=true\/X.env.scope.names.lookup y=some .local:=by trivial) :
  DSs X (.Assign [.Name y py] (.ListComp (.List [] xQ) [⟨tg,iter,[],0⟩] scope pos) PL::lst::uX) (Dm.aC (Dm.nN j fi own.length bd Px) gs):=by
 obtain⟨g,h1,h2⟩:=hg.ex;have h:=aY (gj hN hj hy hc (c_.of hS hk) hi h1 (fun cl C s H fp=>yY) (fun cl C s H fp=>xg (pos:=xQ) dM) hsw hs hf) (aY hlp hre);intro uW s σ H D I q;exact h uW s σ H D I (LH h2 (fun i hi=>by rw[I.len];exact ux hl i hi) (by rw[I.len];exact(Su.mp hj).1) q)
end
end
theorem zk{H0:Hp}(i:Int):∀{kvs:List (Key×V)} {ks:List Int} {ds:List Dm.Dat},kvs.map (·.1)=ks.map Te->az H0 (kvs.map (·.2)) ds ->
  (lH kvs (Te i)).map (·.1)=(Dm.fu ks ds i).map Te/\az H0 ((lH kvs (Te i)).map (·.2)) (Dm.fy ks ds i)
 |[],[],ds,_,r=>by cases r;exact⟨rfl,.nil⟩
 |[],_::_,_,e,_=>by cases e
 |_::_,[],_,e,_=>by cases e
 |(k,v)::kvs,k'::ks,ds,e,r=>by
  rw[Sq,Sq]at e;injection e with e1 e2
  cases r with
  |cons h t=>
   obtain⟨i1,i2⟩:=zk i e2 t;unfold lH at i1 i2 ⊢;dsimp only at e1;subst e1;by_cases q:k'=i
   ·subst q;rw[T6 (by simp),Dm.fu,if_pos rfl,Dm.fy,if_pos rfl];exact⟨i1,i2⟩
   ·have q':¬(Te k':Key)=Te i:=sy q;rw[T7 (by simpa using q'),Dm.fu,if_neg q,Dm.fy,if_neg q];exact⟨by rw[Sq,Sq,i1],by rw[Sq];exact .cons h i2⟩
section
variable{σ:L2.St}{H:Hp}{Q:VK}
theorem LK{i:Nat}{f:Dm.FE}(h:tD (Dm.lV i f) σ H Q):Co (fT i) (tD f) σ H Q:=by
 obtain⟨H0,ρ,x,ρ',st,e,k⟩:=h;unfold Dm.lV at e;split at e
 case h_2=>cases e
 rename_i ks0 vs0 h0;split at e
 case h_2=>cases e
 rename_i m ρ1 e1;split at e
 case h_2=>cases e
 rename_i ks vs h1;split at e
 case h_2=>cases e
 rename_i d hl;cases e;obtain⟨a0,q0,n0,Lz,y0,_⟩:=st.ow i _ h0;refine⟨_,q0,a0,rfl,.inl ⟨Lz,.inl y0⟩,H0,ρ,_,ρ1,st,e1,fun u H1 Hb t1 r1=>?_⟩;have hu:=Rep.isInt r1;subst hu;obtain⟨a,q,n,w⟩:=t1.st.ow i _ h1;rw[q0]at q;cases q;obtain⟨kvs,y,ek,rs⟩:=w;rcases gQ m ek rs with⟨d',v,l1,l2,r⟩ | ⟨l1,_⟩
 ·rw[hl]at l1;cases l1;obtain⟨p1,p2⟩:=zk m ek rs;have ow:ai σ ρ1 a0:=⟨i,_,h1,q0⟩
  have hil:i<ρ1.length:=(Su.mp h1).1;refine⟨kvs,Te m,v,y,rfl,l2,k v H1 _ ⟨t1.st.write h1 q0 ⟨_,ao,p1,p2⟩,t1.stp.trans (Stp.write ow) fun b z=>.inl (t1.own b z),fun b z=>t1.own b (cj h1 z),fun j z=>trivial⟩ r⟩
 ·rw[hl]at l1;cases l1
end
section
variable{vs:List Dm.Dat}{ρ ρ':Dm.Env}{ks:List Int}{x:Dm.Val}{d:Dm.Dat}{H H':Hp}{i:Nat}{X:Cx}
theorem xR:cg X (.type "dict") (fun xs H Q=>∃a kvs,xs=[.ref a]/\H a=some (.dK kvs)/\∀p,H p=none->Q (.ref p) (upd H p (.dK kvs))):=by intro uW s σ H xs us Q I r h;obtain⟨a,kvs,rfl,ha,k⟩:=h;obtain⟨u,rfl,rx⟩:=vals1 r;cases rx;exact Cr I (.inl ha) fun p s' hp I'=>⟨.ref p,_,I',rfl,k p hp⟩
theorem Hl:CallD (fun xs H Q=>∃a kvs,xs=[.ref a]/\H a=some (.dK kvs)/\∀p,H p=none->Q (.ref p) (upd H p (.dK kvs))) Dm.uE:=by
 intro H0 H vs ds z Q s rs e k;unfold Dm.uE at e;split at e
 ·cases e;cases rs with
  |cons r rr=>cases rr;obtain⟨a,kvs,rfl,ha,ek,rs⟩:=dP s r;refine⟨a,kvs,rfl,ha,fun p hp=>k _ _ _ (aD.gb s hp) ⟨p,rfl,hp,s.free hp,kvs,ao,ek,rs⟩⟩
 ·cases e
theorem nP:∀(its:List Value) (ns:List Int),its.length=ns.length->(∀(i:Nat) (v:Value),its[i]?=some v->∃n,ns[i]?=some n/\∃t,v=Value.int n t)->IntsAre its ns
 |[],[],_,_=>.nil
 |[],_::_,h,_=>by cases h
 |_::_,[],h,_=>by cases h
 |v::its,n::ns,h,k=>by
  obtain⟨m,h1,t,h2⟩:=k 0 v rfl;simp at h1;subst h1;subst h2;exact .cons n t (nP its ns (by simpa using h) fun i v e=>by obtain⟨m,q1,q2⟩:=k (i+1) v (by simpa using e);exact⟨m,by simpa using q1,q2⟩)
theorem zl:∀{kvs:List (Key×V)} {vs:List (Key×Value)},KV kvs vs->vs.map (·.1)=kvs.map (·.1)
 |_,_,.nil=>rfl
 |_,_,.cons h t=>by rw[Sq,Sq,zl t,h.1]
theorem dD:∀{its:List Value} {ns:List Int},IntsAre its ns->Vals (ns.map V.int) its
 |_,_,.nil=>.nil
 |_,_,.cons n t h=>.cons ⟨t,rfl⟩ (dD h)
def C8:List V->Hp->VK->Prop:=fun xs H Q=>∃(p:Addr) (kvs:List (Key×V)) (ns:List Int),xs=[.ref p]/\H p=some (.dK kvs)/\kvs.map (·.1)=ns.map Te/\ns.length<=63 /\
 ∀(ms:List Int) (l:Addr),ms.Perm ns->ms.Pairwise (·<=·)->H l=none->Q (.ref l) (upd H l (.lst (ms.map V.int)))
theorem xS(hc:X.calm=true):cg X (.builtin "sorted") C8:=by
 intro uW s σ H xs us Q I r h;obtain⟨p,kvs,ns,rfl,hq,ek,hl,k⟩:=h;obtain⟨u,rfl,rx⟩:=vals1 r;cases rx;obtain⟨z,hd,vs,rel,dd⟩:=yT I.hok hq;obtain⟨ep,hat⟩:=dd.dictAt;have Fd:vs.length=ns.length:=by
  rw[<- rel.length];have:=congrArg List.length ek
  simpa using this
 have hns:vs.length<=sizeLine:=by rw[<- rel.length];exact z
 refine Calls.call_function_entry kind_sorted plain_sorted entry_sorted (args_sorted1 _) ?_;unfold Builtin.«sorted»;refine wpAny_bind (m:=checkCount "sorted" 1 1 _) (wpAny_pure ?_);refine wpAny_bind (PySem.W.kdu_collect (A:=X.A.in1) (PySem.W.kdl_dict (knd:=aU X.prog X.w) (kvs:=vs) (ep:=ep) hd) (I.ok.hd hc) hat hns fun h' tk En hk hacc=>?_);have hsz:En.toList.length=ns.length:=by rw[SN,hacc.1,Fd]
 have hI:IntsAre En.toList ns:=nP _ _ hsz fun i v e=>by
  obtain⟨ky,x,h1,h2⟩:=hacc.2 i v (by rw[<- TZ];exact e);have hk1:(vs.map (·.1))[i]?=some ky:=by rw[SS,h1];rfl
  rw[zl rel,ek,SS]at hk1;cases q:ns[i]? with
  |none=>rw[q]at hk1;cases hk1
  |some n=>rw[q]at hk1;cases hk1;exact⟨n,rfl,(Value.isInt_shape (k:=n) (v:=v) h2)⟩
 have hn:En.toList.length<=63:=by rw[hsz];exact hl
 refine wpAny_bind (wpAny_newList ?_ (S8 hn (by decide)));have hL0:(h'.push (seqObj "list" En.toList.toArray 0)).get? h'.objs.size=some (seqObj "list" En.toList.toArray 0):=S2 _ rfl;have I1:=I.kept (t':=tk) hk;refine wpAny_bind (wpAny_holding (wpAny_call_entry (s:={ s with heap:=h'.push (seqObj "list" En.toList.toArray 0),toks:=tk }) slot_list_sort ⟨_,hL0,rfl⟩ entry_list_sort (list_sort_tree hL0 hI (by omega) fun out ms a1 a2 a3=>⟨_,rfl,?_⟩) (args_list_sort _)));obtain⟨c,hc'⟩:=sortedHeap_at (out:=out) hL0;have hz2:(ms.map V.int).length<=sizeLine:=by rw[Ss,a2.length_eq];exact S8 hl (by decide)
 refine wpAny_pure ⟨_,rfl,.ref h'.objs.size,_,I1.laid (t':=tk) (fun b o e=>?_) (SA _) (show aT X.prog X.w _ _ _ (.lst (ms.map V.int)) from ⟨hz2,out.toList,c,dD a1,by simpa using hc'⟩),rfl,k ms _ a2 a3 (I1.hok.fresh (SA _))⟩;have lt:=SI e;rw[sortedHeap_old (S7 lt) (by rw[size_push'];exact UR lt)];exact Sz _ e
theorem C9:CallD C8 Dm.kY:=by
 intro H0 H vs ds z Q s rs e k;unfold Dm.kY at e;split at e
 ·rename_i ks vs';split at e
  case isFalse=>cases e
  rename_i hl;cases e;cases rs with
  |cons r rr=>
   cases rr;obtain⟨a,kvs,rfl,ha,ek,rs⟩:=dP s r;refine⟨a,kvs,ks,rfl,ha,ek,hl,fun ms l pm so hp=>?_⟩;have em:ms=Dm.cU (fun a b=>decide (a<b)) ks:=Dm.d8 (lt:=fun a b=>decide (a<b)) (fun a b h1 h2=>by simp at h1 h2;omega) (pm.trans (Dm.cK _ ks).symm) (so.imp fun {a b} h=>by simp;omega)
    (Dm.di (fun a b c h1 h2=>by simp at *;omega) (fun a b h=>by simp at *;omega) ks)
   exact k _ _ _ (aD.gb s hp) ⟨l,rfl,hp,s.free hp,_,ao,by rw[<- em];exact kX ms⟩
 ·cases e
theorem LL(e:Dm.tkd ρ x=some (d,ρ')):Dm.tk ρ x=some (d,ρ')\/∃i ks vs,x=.slot i/\ρ[i]?=some (.ow (.dct ks vs))/\d=.dct ks vs/\ρ'=ρ:=by
 cases x with
 |val d'=>exact .inl e
 |new d'=>exact .inl e
 |slot i=>
  unfold Dm.tkd at e;dsimp only at e;split at e
  ·rename_i ks vs h;cases e;exact .inr ⟨i,ks,vs,rfl,h,rfl,rfl⟩
  ·rename_i d' _ h;left;unfold Dm.tk;dsimp only;rw[h];exact e
  ·rename_i d' h;left;unfold Dm.tk;dsimp only;rw[h];exact e
  ·cases e
theorem C_(e:Dm.tkd ρ x=some (d,ρ'))(h:ρ[i]?=some (.ow (.dct ks vs))):ρ'[i]?=some (.ow (.dct ks vs)):=by
 cases x with
 |val d'=>cases e;exact h
 |new d'=>cases e;exact h
 |slot j=>
  unfold Dm.tkd at e;dsimp only at e;split at e
  ·cases e;exact h
  ·rename_i d' hn hj;cases e;by_cases q:j=i
   ·subst q;rw[h]at hj;cases hj;exact absurd rfl (hn ks vs)
   ·rw[eg q];exact h
  ·cases e;exact h
  ·cases e
theorem qT:∀{xs:List Dm.Val} {ρ ρ':Dm.Env} {ds:List Dm.Dat},Dm.xP ρ xs=some (ds,ρ')->ρ[i]?=some (.ow (.dct ks vs))->ρ'[i]?=some (.ow (.dct ks vs))
 |[],_,_,_,e,h=>by cases e;exact h
 |x::xs,ρ,ρ',ds,e,h=>by
  unfold Dm.xP at e;split at e
  ·cases e
  rename_i d ρ1 e1;split at e
  ·cases e
  rename_i ds' ρ2 e2;cases e;exact qT e2 (C_ e1 h)
def Rt(H0:Hp)(σ:L2.St)(ρ:Dm.Env)(v:V)(d:Dm.Dat):Prop:=Rep H0 v d\/∃(i:Nat) (b:Addr) (ks:List Int) (vs:List Dm.Dat),d=.dct ks vs/\v=.ref b/\ρ[i]?=some (.ow (.dct ks vs))/\σ[i]?=some (some (.ref b))
inductive uG(H0:Hp)(σ:L2.St)(ρ:Dm.Env):List V->List Dm.Dat->Prop
 |nil:uG H0 σ ρ [] []
 |cons {v:V} {d:Dm.Dat} {vs:List V} {ds:List Dm.Dat}:Rt H0 σ ρ v d->uG H0 σ ρ vs ds->uG H0 σ ρ (v::vs) (d::ds)
theorem xT{Hs H0s H0 H:Hp}{σ:L2.St}{ρs:Dm.Env}:∀{xs:List Dm.Val} {vs:List V} {ρ ρ':Dm.Env} {ds:List Dm.Dat} {H0c:Hp},ESt σ ρs H0s Hs ρ H0c H->ak H0 H0c->cT Hs H0 H σ ρ vs xs->Dm.xP ρ xs=some (ds,ρ') ->
  ∃ni,ESt σ ρs H0s Hs ρ' ni H/\ak H0c ni/\uG ni σ ρ' vs ds
 |[],_,ρ,ρ',ds,H0c,t,b,r,e=>by cases r;cases e;exact⟨H0c,t,ak.refl _,.nil⟩
 |x::xs,_,ρ,ρ',ds,H0c,t,b,r,e=>by
  cases r with
  |cons h r=>
   unfold Dm.xP at e;split at e
   ·cases e
   ·rename_i d ρ1 e1;split at e
    ·cases e
    ·rename_i ds' ρ2 e2;cases e;rcases LL e1 with e1' | ⟨i,ks,vs,rfl,hi,rfl,rfl⟩
     ·obtain⟨H1,t1,b1,r1,o1,d1⟩:=take1 t b h e1';obtain⟨H2,t2,b2,r2⟩:=xT t1 (b.trans b1) (r.rho o1 d1) e2;exact⟨H2,t2,b1.trans b2,.cons (.inl (r1.mono b2)) r2⟩
     ·obtain⟨H2,t2,b2,r2⟩:=xT t b r e2;obtain⟨q,_⟩:=h;obtain⟨a,z,_⟩:=t.st.ow i _ hi;rw[q]at z;cases z;exact⟨H2,t2,b2,.cons (.inr ⟨i,a,ks,vs,rfl,rfl,qT e2 hi,q⟩) r2⟩
mutual
theorem Rep.noD(hk:∀a o,H a=some o->H' a=some o\/∃kvs,o=.dK kvs):∀{v:V} {d:Dm.Dat},Rep H v d->Dm.bX d=true->Rep H' v d
 |_,_,.non,_=>.non
 |_,_,.bl b,_=>.bl b
 |_,_,.int i,_=>.int i
 |_,_,.str x,_=>.str x
 | _,_,.tup h r,n=>.tup (by
   rcases hk _ _ h with z | ⟨_,z⟩
   ·exact z
   ·cases z) (az.noD hk r (by unfold Dm.bX at n;exact n))
 | _,_,.lst h r,n=>.lst (by
   rcases h with h | ⟨o,h⟩
   ·rcases hk _ _ h with z | ⟨_,z⟩
    ·exact .inl z
    ·cases z
   ·rcases hk _ _ h with z | ⟨_,z⟩
    ·exact .inr ⟨o,z⟩
    ·cases z) (az.noD hk r (by unfold Dm.bX at n;exact n))
 |_,_,.dct _ _ _,n=>by unfold Dm.bX at n;cases n
 |_,_,.exc _,n=>by unfold Dm.bX at n;cases n
 |_,_,.fn a,_=>.fn a
theorem az.noD(hk:∀a o,H a=some o->H' a=some o\/∃kvs,o=.dK kvs):∀{vs:List V} {ds:List Dm.Dat},az H vs ds->Dm.gx ds=true->az H' vs ds
 |_,_,.nil,_=>.nil
 |_,_,.cons h r,n=>by unfold Dm.gx at n;rw[SQ]at n;exact .cons (Rep.noD hk h n.1) (az.noD hk r n.2)
end
end
open Classical in
theorem Dc{σ:L2.St}{H:Hp}{Q:VK}{f:List Dm.Dat->Option Dm.RV}{fs:List Dm.FE}{E:XK}(h:tD (Dm.eFd f fs) σ H Q):jN (spD f) [] E (tDA fs) σ H Q:=by
 obtain⟨H0,ρ,x,ρ',st,e,k⟩:=h;unfold Dm.eFd at e;split at e
 ·cases e
 rename_i xs ρ1 e1;split at e
 ·cases e
 rename_i ds ρ2 e2;split at e
 ·cases e
 rename_i z fz;split at e
 case isFalse=>cases e
 rename_i hno;injection e with e
 injection e with ea eb
 subst ea;subst eb;refine⟨H0,ρ,xs,ρ1,st,e1,fun vs H1 Hb t1 r1=>?_⟩;dsimp only;rw[Tu];obtain⟨H2,t2,b2,r2⟩:=xT t1 (ak.refl _) r1 e2
 let B:Addr->Prop:=fun b=>∃(i:Nat) (ks:List Int) (vs:List Dm.Dat),ρ2[i]?=some (.ow (.dct ks vs))/\σ[i]?=some (some (.ref b))
 have hB:∀b,B b->H2 b=none/\∃kvs,Hb b=some (.dK kvs):=fun b ⟨i,ks,vs,h1,h2⟩=>by obtain⟨a,q,n,kvs,w,_⟩:=t2.st.ow i _ h1;rw[h2]at q;cases q;exact⟨n,kvs,w⟩
 let H2':Hp:=fun b=>if B b then Hb b else H2 b
 have in':∀b,B b->H2' b=Hb b:=fun b h=>if_pos h;have out':∀b,¬B b->H2' b=H2 b:=fun b h=>if_neg h;have s2:ak H2 H2':=fun b o e=>by
  by_cases q:B b
  ·rw[(hB b q).1]at e;cases e
  ·rw[out' b q];exact e
 have s2b:ak H2' Hb:=fun b o e=>by
  by_cases q:B b
  ·rw[in' b q]at e;exact e
  ·rw[out' b q]at e;exact t2.st.same _ _ e
 have rr:∀{vs:List V} {ds:List Dm.Dat},uG H2 σ ρ2 vs ds->az H2' vs ds:=fun {vs ds} r=>by
  induction r with
  |nil=>exact .nil
  |cons h _ ih=>
   refine .cons ?_ ih;rcases h with h | ⟨i,b,ks,vs',rfl,rfl,h1,h2⟩
   ·exact h.mono s2
   ·obtain⟨a,q,n,kvs,w,ek,rs⟩:=t2.st.ow i _ h1;rw[h2]at q;cases q;exact .dct (by rw[in' _ ⟨i,ks,vs',h1,h2⟩];exact w) ek (rs.mono s2)
 refine⟨H2',ds,z,s2b,rr r2,fz,fun w H3 Hd g3 r3=>?_⟩
 let H3':Hp:=fun b=>if B b then none else H3 b
 have in3:∀b,B b->H3' b=none:=fun b h=>if_pos h;have Dd:∀b,¬B b->H3' b=H3 b:=fun b h=>if_neg h;have gr:aD H2 Hb H3' Hd:=⟨fun b o e=>by
   by_cases q:B b
   ·rw[(hB b q).1]at e;cases e
   ·rw[Dd b q];exact g3.s0 _ _ (s2 _ _ e),g3.s1,fun b o e=>by
   by_cases q:B b
   ·rw[in3 b q]at e;cases e
   ·rw[Dd b q]at e;rcases g3.s2 b o e with y | y
    ·exact .inl y
    ·rw[out' b q]at y;exact .inr y,fun b o e=>by
   by_cases q:B b
   ·rw[in3 b q]at e;cases e
   ·rw[Dd b q]at e;exact g3.s3 _ _ e⟩
 have hk:∀a o,H3 a=some o->H3' a=some o\/∃kvs,o=.dK kvs:=fun a o e=>by
  by_cases q:B a
  ·obtain⟨_,kvs,y⟩:=hB a q;have:=g3.s0 a _ ((in' a q).trans y);rw[e]at this;exact .inr ⟨kvs,Option.some.inj this⟩
  ·exact .inl (by rw[Dd a q];exact e)
 have r3':um Hb H3' Hd w z:=by
  cases z with
  |val d=>exact Rep.noD hk r3 hno
  |new d=>
   obtain⟨a,ea,n,n0,w'⟩:=r3;refine⟨a,ea,n,?_,?_⟩
   ·by_cases q:B a
    ·exact in3 a q
    ·rw[Dd a q];exact n0
   ·cases d with
    |lst ds'=>obtain⟨ys,y1,y2⟩:=w';exact⟨ys,y1,az.noD hk y2 (by have:Dm.bX (.lst ds')=true:=hno;unfold Dm.bX at this;exact this)⟩
    |dct ks ds'=>have:Dm.bX (.dct ks ds')=true:=hno;unfold Dm.bX at this;cases this
    |_=>exact w'.elim
 exact k w H3' Hd (t2.trans (.grow t2.st gr)) ((r3'.toV t2.st).early fun a n=>t2.stp.gone n)
section
variable{X:Cx}{e b:Expr}{es:List Expr}{fs:List Dm.FE}{fb:Dm.FE}{p pos:Pos}
theorem uH{k:Nat}{F:Addr}{fd:FuncData}{ps:List Str}{g:List Dm.Dat->Option Dm.RV}{x:Str}(G:aP X.prog X.w X.K X.mg X.base CX0 k F fd ps (spD g))(hr:bq k X.A)(hg:Gl X x)(hm:X.mg x=some (.ref F))(hk:TY X.K (.ref F)=true)(hb:Binds X.K fd ps [])
  (ha:DA X (e::es) fs) (RS:(x == ("__debug__" : Str))=false:=by decide) (he:starEach (e::es) X.env=(false,eval e X.env)::starEach es X.env:=by rfl) (HL:(backTo pos (starEach es X.env)).any (·.1)=false:=by rfl) :
  DE X (.Call (.Name x p) (e::es) [] pos) (Dm.eFd g fs):=PE.weak (dY G hr hg hm hk hb .nil (lG (X:=X)) ha RS he HL) fun _ _ _=>Dc
theorem LM(hg:Gl X "dict")(hm:X.mg "dict" = none)(ha:DA X [e] fs)(he:starEach [e] X.env=[(false,eval e X.env)]:=by rfl)(HL:(backTo pos (starEach [] X.env)).any (·.1)=false:=by rfl):DE X (.Call (.Name "dict" p) [e] [] pos) (Dm.eB Dm.uE fs):=CH xR Hl (by rfl) hg hm ha (he:=he) (HL:=HL)
theorem Ho(hc:X.calm=true)(hg:Gl X "sorted")(hm:X.mg "sorted" = none)(ha:DA X [e] fs)(he:starEach [e] X.env=[(false,eval e X.env)]:=by rfl)(HL:(backTo pos (starEach [] X.env)).any (·.1)=false:=by rfl):DE X (.Call (.Name "sorted" p) [e] [] pos) (Dm.eB Dm.kY fs):=AV (xS hc) C9 (by rfl) hg hm ha (he:=he) (HL:=HL)
theorem De(i:Nat){x:Str}{px Pz cpos:Pos}(hb:DE X b fb)(hi:X.N[i]?=some x:=by rfl)(hv:Vis X.env.scope x:=by trivial)(hd:(x == ("__debug__" : Str))=false:=by decide)
  (PJ:(x == ("__classdict__" : Str))=false:=by decide) (m:M1 X (.Name x px) "pop" Pz b cpos:=by exact⟨rfl,rfl,rfl,rfl⟩):DE X (.Call (.Attribute (.Name x px) "pop" Pz) [b] [] cpos) (Dm.lV i fb):=PE.weak (Cq (bL hi hv hd PJ) hb m) fun _ _ _=>LK
end
section
variable{X:Cx}{a b c e:Expr}{fa fb fc:Dm.FE}{p pos:Pos}
theorem bits_le{i:Int}(h:i.natAbs.log2<1000000):Vt i<=2 ^ 20:=by
 have:Vt i<=i.natAbs.log2+1:=by
  unfold Vt
  first | omega | (split<;>omega) | simp
 omega
def Jh(i j:Int):Prop:=i.natAbs.log2<1000000/\j.natAbs.log2<1000000
theorem Hq:OpR X (binaryOp .Mult) (rI Jh fun i j=>.int (i*j)):=opI fun _ _ _ _ _ _ _ hc q=>mul_int q (.of_bits (bits_le hc.1) (bits_le hc.2))
theorem Hr:OpD (rI Jh fun i j=>.int (i*j)) Dm.j_:=by
 intro H0 H x y dx dy z Q s rx ry e k;unfold Dm.j_ at e;split at e
 ·split at e
  case isFalse=>cases e
  rename_i hb;cases e;cases aA rx;cases aA ry;exact⟨_,_,rfl,rfl,hb,k _ H0 H (aD.refl s) (.int _)⟩
 ·cases e
theorem sF(ha:DE X a fa)(hb:DE X b fb):DE X (.BinOp a .Mult b pos) (Dm.e2 Dm.j_ fa fb):=xD Hq Hr ha hb
end
noncomputable def Its(lo k:Int)(n:Nat):It:=⟨fun i _=>i<n,fun i H x H'=>H'=H/\x=.int (lo+(i:Nat)*k),fun i _=>n<=i⟩
theorem xU{P:Program}{w:World}{K:gc}{tg:Expr}(it:Addr)(lo k:Int)(n:Nat):Turn P w K tg (Its lo k n) [it] it (fun i h=>IsRangeIter h it (lo+(i:Nat)*k) ((n:Int)-(i:Nat)) k) where
 mem:=by simp
 obj:=fun i h st b hb=>by
  have e:b=it:=by simpa using hb
  subst e;exact ⟨_,st,fun v z=>by have z':V6 _=VA v:=z;cases z'⟩
 keep:=fun i h h' st k=>k it (by simp) _ st
 item:=by intro X hP hw hK hc i uW s σ H E I hf st hg;subst hP hw hK;obtain⟨f0,f1,f2,f3,f4,f5⟩:=hf it (by simp);have W:=Walks.range (prog:=X.prog) (w:=X.w) (I.ok.hd hc) it lo k n;refine W.item i s _ _ hg st fun v h' tk hv st' kk=>?_;obtain⟨t,rfl⟩:=hv;have I1:Inv X uW σ H { s with heap:=h',toks:=tk }:=I.turned (fun b o hb e=>kk b o (by simpa using hb) e) f0 f1 f3 f4 f5;exact⟨_,rfl,tY (s:={ s with heap:=h',toks:=tk }) (n := "range_iterator") st' rfl rfl (by decide) ⟨.int (lo+(i:Nat)*k),H,I1,⟨t,rfl⟩,⟨rfl,rfl⟩,st',fun b hb=>(hf b hb).1⟩⟩
 done:=by intro X hP hw hK hc i uW s σ H E I hf st hg;subst hP hw hK;obtain⟨f0,f1,f2,f3,f4,f5⟩:=hf it (by simp);exact wpAny_pyNext_range_end (I.ok.hd hc) st (by have:n<=i:=hg;omega) fun h' eb=>⟨rfl,I.turned (t':=s.toks) (fun b o hb e=>eb b o hb e) f0 f1 f3 f4 f5⟩
 self:=fun _ _ _ _ _ st h=>wpAny_pyIter_rangeiter st h
theorem zm{a k:Int}(hk:0<k)(h:0<=a):0<=a / k/\a / k<=a:=⟨Int.ediv_nonneg h (by omega),by have:=Int.ediv_mul_le a (b:=k) (by omega);have h2:0<=a / k:=Int.ediv_nonneg h (by omega);have:(a / k)*1<=(a / k)*k:=Int.mul_le_mul_of_nonneg_left (by omega) h2;omega⟩
theorem kc(a b k:Int)(hk:0<k):Uo a b k=(Dm.cL a b k:Nat):=by
 unfold Uo Dm.cL;simp only[hk,show (k>0)=True from eq_true hk,if_true];by_cases h:a<b
 ·have:=zm hk (show 0<=b-a-1 by omega);simp only[h,show (a<b)=True from eq_true h,if_true]
  first | omega | (split<;>omega)
 ·simp only[show (a<b)=False from eq_false h,if_false]
  first | omega | (split<;>omega) | simp
theorem Df{a b k:Int}(hk:0<k)(hk':k<=1000)(ha:-(2 ^ 60)<=a)(ha':a<2 ^ 60)(hb:-(2 ^ 60)<=b)(hb':b<2 ^ 60):Builtin.Range.small a b k=true:=by
 unfold Builtin.Range.small;rw[kc a b k hk];have hs:(Dm.cL a b k:Int)<=2 ^ 61:=by
  unfold Dm.cL;split
  ·have:=zm hk (show 0<=b-a-1 by omega);omega
  ·omega
 simp only[Builtin.Range.rangeFitsLong,SQ,V4,decide_eq_true_eq,beq_iff_eq,show (k>0)=True from eq_true hk,if_true]
 first | omega | (refine⟨?_,?_⟩<;>omega) | (split<;>omega)
section
variable{X:Cx}{tg:Expr}
def Ji(ta:TA):TI:=fun σ H R=>ta σ H fun vs H1=>∃i j k:Int,vs=[.int i,.int j,.int k]/\(0<k/\k<=1000)/\(-(2 ^ 60)<=i/\i<2 ^ 60/\-(2 ^ 60)<=j/\j<2 ^ 60)/\R (Its i k (Dm.cL i j k)) H1
theorem A8{a b c:Expr}{ta:TA}{p pos:Pos}(hg:Gl X "range")(hm:X.mg "range" = none)(ha:PA X [a,b,c] ta)(hs:starEach [a,b,c] X.env=(false,eval a X.env)::starEach [b,c] X.env:=by rfl)(hs2:(backTo pos (starEach [b,c] X.env)).any (·.1)=false:=by rfl) :
  PI X tg (.Call (.Name "range" p) [a,b,c] [] pos) (Ji ta):=by
 intro uW s σ H R I h;refine Call_ (cY I hg hm boot_range (Tn (thn (ha pos uW s σ H _ I h) fun us s1 ⟨vs,H1,I1,r1,q1⟩=>?_) hs hs2));obtain⟨i,j,k,e,⟨hk,hk'⟩,⟨q1,q2,q3,q4⟩,q⟩:=q1;subst e;cases r1 with
 |cons r rr=>
  cases rr with
  |cons r' rr=>
   cases rr with
   |cons r'' rr=>
   cases rr;obtain⟨t,rfl⟩:=r;obtain⟨t',rfl⟩:=r';obtain⟨t'',rfl⟩:=r'';refine call_range_3 (by simp;omega) ?_ (Or.inl (PyProof.noPylong_small (by omega)));refine wpAny_pyIter_range (IsRange.new ..) (Df hk hk' q1 q2 q3 q4) ?_;have I2:Inv X uW σ H1 { s1 with heap:=s1.heap.push { cls:=.type "range",data:=.fields #[.int i t,.int j t',.int k t''] },toks:=s1.toks }:=I1.kept fun b o e=>Sz _ e;refine ⟨(s1.heap.push { cls:=.type "range",data:=.fields #[.int i t,.int j t',.int k t''] }).objs.size,[(s1.heap.push { cls:=.type "range",data:=.fields #[.int i t,.int j t',.int k t''] }).objs.size],_,_,H1,rfl,
    I2.kept (t':=s1.toks) fun b o e=>Sz _ e,xU _ i k (Dm.cL i j k),?_,fun b hb=>?_,q⟩
   ·have e1:i+((0:Nat):Int)*k=i:=by simp
    have e2:((Dm.cL i j k:Nat):Int)-((0:Nat):Int)=Uo i j k:=by rw[kc i j k hk];omega
    show IsRangeIter _ _ (i+((0:Nat):Int)*k) (((Dm.cL i j k:Nat):Int)-((0:Nat):Int)) k;rw[e1,e2];exact S2 _ rfl
   ·have e:b=(s1.heap.push { cls:=.type "range",data:=.fields #[.int i t,.int j t',.int k t''] }).objs.size:=by simpa using hb
    subst e;exact I2.wW (SA _) (I2.hok.fresh (SA _))
theorem Dg{H0:Hp}{lo k:Int}{n:Nat}:JW (Its lo k n) H0 (Dm.iC lo k n):=by
 intro H0' H s0 s1;have el:(Dm.iC lo k n).length=n:=by simp[Dm.iC]
 refine⟨fun i hi=>by rw[el]at hi;exact hi,fun i d e=>?_⟩;have HY:i<n:=by have:=(Su.mp e).1;rw[el]at this;exact this
 have hd:d=.int (lo+(i:Nat)*k):=by unfold Dm.iC at e;rw[SS,Ua HY]at e;exact(Option.some.inj e).symm
 refine⟨HY,fun x H' y=>?_⟩;obtain⟨rfl,rfl⟩:=y;subst hd;exact⟨H0',aD.refl s1,.int _⟩
theorem OT{σ:L2.St}{H:Hp}{R:It->Hp->Prop}{f g c:Dm.FE}(h:tDI (Dm.iRs f g c) σ H R):Ji (tDA [f,g,c]) σ H R:=by
 obtain⟨H0,ρ,ys,ρ',st,e,k⟩:=h;unfold Dm.iRs at e;split at e
 ·rename_i i ρ1 e1;split at e
  ·rename_i j ρ2 e2;split at e
   ·rename_i l ρ3 e3;split at e
    ·rename_i hb;cases e;refine⟨H0,ρ,[.val (.int i),.val (.int j),.val (.int l)],_,st,by simp only[Dm.eAs,e1,e2,e3];rfl,fun vs H0' H' t r=>?_⟩;cases r with
     |cons r rr=>
      cases rr with
      |cons r' rr=>
       cases rr with
       |cons r'' rr=>cases rr;cases Rep.isInt r;cases Rep.isInt r';cases Rep.isInt r'';obtain⟨h0,h1,h2,h3,h4⟩:=hb;unfold Dm.BIG at h1 h2 h3 h4;exact⟨i,j,l,rfl,h0,⟨by omega,by omega,by omega,by omega⟩,k _ H0' H' t Dg⟩
    ·cases e
   ·cases e
  ·cases e
 ·cases e
theorem Ru{a b c:Expr}{fa fb fc:Dm.FE}{p pos:Pos}(hg:Gl X "range")(hm:X.mg "range" = none)(ha:DA X [a,b,c] [fa,fb,fc])(hs:starEach [a,b,c] X.env=(false,eval a X.env)::starEach [b,c] X.env:=by rfl)(hs2:(backTo pos (starEach [b,c] X.env)).any (·.1)=false:=by rfl) :
  DI X tg (.Call (.Name "range" p) [a,b,c] [] pos) (Dm.iRs fa fb fc):=PI.weak (A8 hg hm ha hs hs2) fun _ _ _=>OT
end
theorem qU{Hs H0 H:Hp}{σ:L2.St}{ρ:Dm.Env}:∀{xs:List Dm.Val} {vs:List V} {ds:List Dm.Dat},cT Hs H0 H σ ρ vs xs->Dm.kZ xs=some ds->az H0 vs ds
 |[],_,_,.nil,e=>by cases e;exact .nil
 |.val d::xs,_,ds,.cons h r,e=>by
  unfold Dm.kZ at e;cases q:Dm.kZ xs with
  |none=>rw[q]at e;cases e
  |some es=>rw[q]at e;cases e;exact .cons h (qU r q)
 |.new _::_,_,_,_,e=>by cases e
 |.slot _::_,_,_,_,e=>by cases e
theorem Ht{σ:L2.St}{H:Hp}{Q:VK}{f:List Dm.Dat->Option (Dm.RV×Dm.Dat)}{f0:Dm.FE}{fs:List Dm.FE}{E:XK}(h:tD (Dm.eFn f f0 fs) σ H Q):jN (spM f) [] E (tDA (f0::fs)) σ H Q:=by
 obtain⟨H0,ρ,x,ρ',st,e,k⟩:=h;unfold Dm.eFn at e;split at e
 case h_2=>cases e
 rename_i d xs ρ1 e1;split at e
 ·cases e
 rename_i ds e2;split at e
 ·cases e
 rename_i z d' fz;cases e;refine⟨H0,ρ,_,_,st,e1,fun vs H1 Hb t1 r1=>?_⟩;dsimp only;rw[Tu];cases r1 with
 |cons r0 rr=>
  obtain⟨a,rfl,n,no,n0,w⟩:=r0;obtain⟨oa,ha⟩:=w.some;refine⟨H1,a,_,d,ds,z,d',rfl,t1.st.same,n0,w,qU rr e2,fz,fun v H3 Hd s3 ss n3 w3 r3=>?_⟩;have st3:av H3 Hd σ ρ':=t1.st.off s3.s0 ss no (fun b o y nb=>s3.s1 b o y nb) fun i d4 b y1 y2=>by
   obtain⟨b',q',nb',w'⟩:=t1.st.ow i d4 y1;rw[y2]at q';cases q';cases y:H3 b with
   |none=>rfl
   |some o=>
    obtain⟨o',z'⟩:=w'.some;rcases s3.s2 b o y with y3 | y3 | y3
    ·rw[y3]at z';cases z'
    ·rw[nb']at y3;cases y3
    ·exact absurd ⟨i,d4,y1,y3▸y2⟩ no
  exact k v H3 Hd ⟨st3,t1.stp.trans s3 fun b y=>.inr (by rw[y];exact n),t1.own,t1.dfn⟩ ((r3.toV t1.st).early fun b y=>t1.stp.gone y)
theorem zo{X:Cx}{e0:Expr}{es:List Expr}{p pos:Pos}{k:Nat}{F:Addr}{fd:FuncData}{ps:List Str}{g:List Dm.Dat->Option (Dm.RV×Dm.Dat)}{x:Str}{f0:Dm.FE}{fs:List Dm.FE}(G:aP X.prog X.w X.K X.mg X.base CX0 k F fd ps (spM g))(hr:bq k X.A)(hg:Gl X x)(hm:X.mg x=some (.ref F))(hk:TY X.K (.ref F)=true)(hb:Binds X.K fd ps [])
  (ha:DA X (e0::es) (f0::fs)) (RS:(x == ("__debug__" : Str))=false:=by decide) (he:starEach (e0::es) X.env=(false,eval e0 X.env)::starEach es X.env:=by rfl) (HL:(backTo pos (starEach es X.env)).any (·.1)=false:=by rfl) :
  DE X (.Call (.Name x p) (e0::es) [] pos) (Dm.eFn g f0 fs):=PE.weak (dY G hr hg hm hk hb .nil (lG (X:=X)) ha RS he HL) fun _ _ _=>Ht
open PySem
variable{C:List Value->Prop}{us:List Value}
theorem len0(h:us.length=0)(c:C []):C us:=by rw[List.eq_nil_of_length_eq_zero h];exact c
theorem A9{n:Nat}{C:List Value->Prop}{us:List Value}(h:us.length=n+1)(c:∀a us,us.length=n->C (a::us)):C us:=by
 cases us with
 |nil=>cases h
 |cons a us=>exact c a us (by simpa using h)
theorem OU(h:us.length=1)(c:∀a,C [a]):C us:=A9 h fun a _ h=>len0 h (C:=fun us=>C (a::us)) (c a)
theorem CW(h:us.length=2)(c:∀a b,C [a,b]):C us:=A9 h fun a _ h=>OU h (C:=fun us=>C (a::us)) (c a)
theorem OV(h:us.length=3)(c:∀a b d,C [a,b,d]):C us:=A9 h fun a _ h=>CW h (C:=fun us=>C (a::us)) (c a)
theorem OW(h:us.length=4)(c:∀a b d e,C [a,b,d,e]):C us:=A9 h fun a _ h=>OV h (C:=fun us=>C (a::us)) (c a)
theorem OX(h:us.length=5)(c:∀a b d e f,C [a,b,d,e,f]):C us:=A9 h fun a _ h=>OW h (C:=fun us=>C (a::us)) (c a)
theorem Rv(h:us.length=6)(c:∀a b d e f g,C [a,b,d,e,f,g]):C us:=A9 h fun a _ h=>OX h (C:=fun us=>C (a::us)) (c a)
end Br
namespace L2
open PySem
variable{K:gc}{x qual:Str}{st:Stmt}{f:Addr}{fd:FuncData}{ps:List Str}
theorem Fun.dR(F:Fun K x qual st f fd)(hp:ps.length=1)(h:∀(kV doc pm:Value) (an:Option Addr) (cdv ct:Value) (a:Value),bindArgs (Tq x qual (bf st) (aV st) (ah st) .none kV doc pm an cdv ct) ⟨[a],[]⟩=pure (ps.zip [a])):Binds K fd ps []:=
 F.binds fun kV doc pm an cdv ct us hl=>Br.OU (C:=fun us=>bindArgs (Tq x qual (bf st) (aV st) (ah st) .none kV doc pm an cdv ct) ⟨us,[]⟩=pure (ps.zip us)) (hl.trans hp) (h kV doc pm an cdv ct)
theorem Fun.b9(F:Fun K x qual st f fd)(hp:ps.length=2)(h:∀(kV doc pm:Value) (an:Option Addr) (cdv ct:Value) (a b:Value),bindArgs (Tq x qual (bf st) (aV st) (ah st) .none kV doc pm an cdv ct) ⟨[a,b],[]⟩=pure (ps.zip [a,b])):Binds K fd ps []:=
 F.binds fun kV doc pm an cdv ct us hl=>Br.CW (C:=fun us=>bindArgs (Tq x qual (bf st) (aV st) (ah st) .none kV doc pm an cdv ct) ⟨us,[]⟩=pure (ps.zip us)) (hl.trans hp) (h kV doc pm an cdv ct)
theorem Fun.fB(F:Fun K x qual st f fd)(hp:ps.length=3)(h:∀(kV doc pm:Value) (an:Option Addr) (cdv ct:Value) (a b d:Value),bindArgs (Tq x qual (bf st) (aV st) (ah st) .none kV doc pm an cdv ct) ⟨[a,b,d],[]⟩=pure (ps.zip [a,b,d])):Binds K fd ps []:=
 F.binds fun kV doc pm an cdv ct us hl=>Br.OV (C:=fun us=>bindArgs (Tq x qual (bf st) (aV st) (ah st) .none kV doc pm an cdv ct) ⟨us,[]⟩=pure (ps.zip us)) (hl.trans hp) (h kV doc pm an cdv ct)
theorem Fun.sG(F:Fun K x qual st f fd)(hp:ps.length=4)(h:∀(kV doc pm:Value) (an:Option Addr) (cdv ct:Value) (a b d e:Value),bindArgs (Tq x qual (bf st) (aV st) (ah st) .none kV doc pm an cdv ct) ⟨[a,b,d,e],[]⟩=pure (ps.zip [a,b,d,e])):Binds K fd ps []:=
 F.binds fun kV doc pm an cdv ct us hl=>Br.OW (C:=fun us=>bindArgs (Tq x qual (bf st) (aV st) (ah st) .none kV doc pm an cdv ct) ⟨us,[]⟩=pure (ps.zip us)) (hl.trans hp) (h kV doc pm an cdv ct)
theorem Fun.sH(F:Fun K x qual st f fd)(hp:ps.length=5)(h:∀(kV doc pm:Value) (an:Option Addr) (cdv ct:Value) (a b d e g:Value),bindArgs (Tq x qual (bf st) (aV st) (ah st) .none kV doc pm an cdv ct) ⟨[a,b,d,e,g],[]⟩=pure (ps.zip [a,b,d,e,g])):Binds K fd ps []:=
 F.binds fun kV doc pm an cdv ct us hl=>Br.OX (C:=fun us=>bindArgs (Tq x qual (bf st) (aV st) (ah st) .none kV doc pm an cdv ct) ⟨us,[]⟩=pure (ps.zip us)) (hl.trans hp) (h kV doc pm an cdv ct)
theorem Fun.LN(F:Fun K x qual st f fd)(hp:ps.length=6)(h:∀(kV doc pm:Value) (an:Option Addr) (cdv ct:Value) (a b d e g i:Value),bindArgs (Tq x qual (bf st) (aV st) (ah st) .none kV doc pm an cdv ct) ⟨[a,b,d,e,g,i],[]⟩=pure (ps.zip [a,b,d,e,g,i])):Binds K fd ps []:=
 F.binds fun kV doc pm an cdv ct us hl=>Br.Rv (C:=fun us=>bindArgs (Tq x qual (bf st) (aV st) (ah st) .none kV doc pm an cdv ct) ⟨us,[]⟩=pure (ps.zip us)) (hl.trans hp) (h kV doc pm an cdv ct)
end L2
namespace Br
open PySem L2
open PySem PySem.Spec PyProof.Rows L2
open Classical in
theorem LO{σ:L2.St}{ρ:Dm.Env}{i:Nat}{b:Addr}(z:ai σ (ρ.set i .un) b):ai σ ρ b:=by obtain⟨j,d,hj,h1,h2⟩:=bE z;exact⟨j,d,h1,h2⟩
end Br
namespace Dk
open PySem PyProof.Rows
open Sem (wp)
end Dk
namespace Br
open PySem PySem.Spec PyProof.Rows L2
end Br
namespace Dm
inductive Dp where
 |s (d:Dat)
 |l (xs:List Dp)
 |t (xs:List Dp)
mutual
noncomputable def Dp.dat:Dp->Dat
 |.s d=>d
 |.l xs=>.lst (Dp.sI xs)
 |.t xs=>.tup (Dp.sI xs)
noncomputable def Dp.sI:List Dp->List Dat
 |[]=>[]
 |x::r=>x.dat::Dp.sI r
end
theorem Dp.nQ:∀xs:List Dp,Dp.sI xs=xs.map Dp.dat
 |[]=>rfl
 |x::r=>by rw[Dp.sI,Dp.nQ r];rfl
theorem Dp.LP(ds:List Dat):Dp.sI (ds.map Dp.s)=ds:=by rw[Dp.nQ,TN];exact(U1 fun d _=>rfl).trans (Vz ds)
noncomputable abbrev FP:=Env->Option (Dp×Env)
noncomputable def pO(f:FE):FP:=fun ρ=>match f ρ with
 |some (.val d,ρ1)=>some (.s d,ρ1)
 |some (.new (.lst ds),ρ1)=>some (.l (ds.map .s),ρ1)
 | some (.slot i,ρ1)=>(match ρ1[i]? with
  |some (.ow (.lst ds))=>some (.l (ds.map .s),ρ1.set i .un)
  |some (.sh d)=>some (.s d,ρ1)
  |_=>none)
 |_=>none
noncomputable def pAs:List FP->Env->Option (List Dp×Env)
 |[],ρ=>some ([],ρ)
 |f::r,ρ=>match f ρ with
  |none=>none
  |some (x,ρ1)=>match pAs r ρ1 with
   |none=>none
   |some (xs,ρ2)=>some (x::xs,ρ2)
noncomputable def pT(fs:List FP):FP:=fun ρ=>match pAs fs ρ with
 |none=>none
 |some (ps,ρ1)=>if ps.length<=SZ then some (.t ps,ρ1) else none
noncomputable abbrev FSP:=Env->Option Dp
noncomputable def qR(f:FP):FSP:=fun ρ=>match f ρ with
 |none=>none
 |some (p,_)=>some p
noncomputable def fC(s:FS)(g:FSP):FSP:=fun ρ=>match s ρ with
 |some (.nx ρ1)=>g ρ1
 |_=>none
noncomputable def fnP(n m:Nat)(g:FSP)(ds:List Dat):Option Dp:=if ds.length=n then g (ds.map Cell.sh++Sv m .un) else none
noncomputable def shC:Cell->Cell
 |.ow d=>.sh d
 |c=>c
noncomputable def zp(ρ:Env):Env:=ρ.map shC
noncomputable abbrev FM:=Env->Dp->Option Out
noncomputable def see(j:Nat)(ρ:Env)(p:Dp):Env:=zp (ρ.set j (.sh p.dat))
noncomputable def mIf(j:Nat)(t:FT)(fs:FS)(g:FM):FM:=fun ρ p=>match t (see j ρ p) with
 |none=>none
 | some (true,_)=>(match fs ρ with
  |some (.nx _)=>none
  |o=>o)
 |some (false,_)=>g ρ p
noncomputable def A_(gs:FS):FM:=fun ρ _=>gs ρ
end Dm
namespace Br
open PySem PySem.Spec PyProof.Rows L2
mutual
inductive bF(N:Addr->Prop)(H0 H:Hp):V->Dm.Dp->List Addr->Prop
 |s {v:V} {d:Dm.Dat}:Rep H0 v d->bF N H0 H v (.s d) []
 |l {a:Addr} {vs:List V} {ps:List Dm.Dp} {fp:List Addr}:N a->H a=some (.lst vs)->aG N H0 H vs ps fp->bF N H0 H (.ref a) (.l ps) (a::fp)
 |t {a:Addr} {vs:List V} {ps:List Dm.Dp} {fp:List Addr}:N a->H a=some (.tup vs)->aG N H0 H vs ps fp->bF N H0 H (.ref a) (.t ps) fp
inductive aG(N:Addr->Prop)(H0 H:Hp):List V->List Dm.Dp->List Addr->Prop
 |nil:aG N H0 H [] [] []
 |cons {v:V} {p:Dm.Dp} {f:List Addr} {vs:List V} {ps:List Dm.Dp} {fp:List Addr}:bF N H0 H v p f->aG N H0 H vs ps fp->aG N H0 H (v::vs) (p::ps) (f++fp)
end
section
variable{N N':Addr->Prop}{H0 H H0' H':Hp}
mutual
theorem bF.mono(s:ak H0 H0')(kn:∀a,N a->N' a)(kt:∀a vs,N a->H a=some (.tup vs)->H' a=some (.tup vs)):∀{v:V} {p:Dm.Dp} {fp:List Addr},bF N H0 H v p fp->(∀a∈fp,H' a=H a)->bF N' H0' H' v p fp
 |_,_,_,.s r,_=>.s (r.mono s)
 |_,_,_,.l n h r,k=>.l (kn _ n) ((k _ Sw).trans h) (aG.mono s kn kt r fun b hb=>k b (Sy _ hb))
 |_,_,_,.t n h r,k=>.t (kn _ n) (kt _ _ n h) (aG.mono s kn kt r k)
theorem aG.mono(s:ak H0 H0')(kn:∀a,N a->N' a)(kt:∀a vs,N a->H a=some (.tup vs)->H' a=some (.tup vs)):∀{vs:List V} {ps:List Dm.Dp} {fp:List Addr},aG N H0 H vs ps fp->(∀a∈fp,H' a=H a)->aG N' H0' H' vs ps fp
 |_,_,_,.nil,_=>.nil
 |_,_,_,.cons h r,k=>.cons (bF.mono s kn kt h fun a ha=>k a (Tf _ ha)) (aG.mono s kn kt r fun a ha=>k a (S5 _ ha))
end
mutual
theorem bF.fpN:∀{v:V} {p:Dm.Dp} {fp:List Addr},bF N H0 H v p fp->∀a∈fp,N a/\∃xs,H a=some (.lst xs)
 |_,_,_,.s _,_,h=>by cases h
 |_,_,_,.l n h r,a,ha=>by
  rcases SD.mp ha with rfl | ha
  ·exact⟨n,_,h⟩
  ·exact aG.fpN r a ha
 |_,_,_,.t n h r,a,ha=>aG.fpN r a ha
theorem aG.fpN:∀{vs:List V} {ps:List Dm.Dp} {fp:List Addr},aG N H0 H vs ps fp->∀a∈fp,N a/\∃xs,H a=some (.lst xs)
 |_,_,_,.nil,_,h=>by cases h
 |_,_,_,.cons h r,a,ha=>(S4.mp ha).elim (bF.fpN h a) (aG.fpN r a)
end
mutual
theorem bF.rep(s:ak H0 H0')(k:∀a o,N a->H a=some o->H0' a=some o):∀{v:V} {p:Dm.Dp} {fp:List Addr},bF N H0 H v p fp->Rep H0' v p.dat
 |_,_,_,.s r=>r.mono s
 |_,_,_,.l n h r=>.lst (.inl (k _ _ n h)) (aG.rep s k r)
 |_,_,_,.t n h r=>.tup (k _ _ n h) (aG.rep s k r)
theorem aG.rep(s:ak H0 H0')(k:∀a o,N a->H a=some o->H0' a=some o):∀{vs:List V} {ps:List Dm.Dp} {fp:List Addr},aG N H0 H vs ps fp->az H0' vs (Dm.Dp.sI ps)
 |_,_,_,.nil=>.nil
 |_,_,_,.cons h r=>.cons (bF.rep s k h) (aG.rep s k r)
end
theorem aG.mK:∀{vs:List V} {ds:List Dm.Dat},az H0 vs ds->aG N H0 H vs (ds.map .s) []
 |_,_,.nil=>.nil
 |_,_,.cons h r=>.cons (.s h) (aG.mK r)
theorem aG.get:∀{vs:List V} {ps:List Dm.Dp} {fp:List Addr} {i:Nat} {p:Dm.Dp},aG N H0 H vs ps fp->ps[i]?=some p->∃v f,vs[i]?=some v/\bF N H0 H v p f/\∀a∈f,a∈fp
 |_,_,_,_,_,.nil,e=>by simp at e
 |_,_,_,0,_,.cons h _,e=>by simp at e;subst e;exact⟨_,_,rfl,h,fun a ha=>Tf _ ha⟩
 |_,_,_,i+1,_,.cons _ r,e=>by obtain⟨v,f,h1,h2,h3⟩:=aG.get (i:=i) r (by simpa using e);exact⟨v,f,by simpa using h1,h2,fun a ha=>S5 _ (h3 a ha)⟩
theorem aG.length:∀{vs:List V} {ps:List Dm.Dp} {fp:List Addr},aG N H0 H vs ps fp->vs.length=ps.length
 |_,_,_,.nil=>rfl
 |_,_,_,.cons _ r=>by rw[S1,S1,aG.length r]
end
theorem av.iD{H0 H:Hp}{σ:L2.St}{ρ:Dm.Env}{a:Addr}{vs:List V}(st:av H0 H σ ρ)(h:H a=some (.tup vs)):¬ai σ ρ a:=fun⟨i,d,h1,h2⟩=>by
 obtain⟨b,q,n,w⟩:=st.ow i d h1;rw[h2]at q;cases q;cases d with
 |lst ds=>obtain⟨xs,y,_⟩:=w;rw[h]at y;cases y
 |dct ks ds=>obtain⟨xs,y,_⟩:=w;rw[h]at y;cases y
 |_=>exact w
theorem bF.est{N:Addr->Prop}{σ:L2.St}{ρ ρ':Dm.Env}{H0 H H0' H':Hp}{v:V}{p:Dm.Dp}{fp:List Addr}(st:av H0 H σ ρ)(t:ESt σ ρ H0 H ρ' H0' H')(r:bF N H0 H v p fp)(k:∀a∈fp,H0 a=none/\¬ai σ ρ a) :
  bF N H0' H' v p fp/\∀a∈fp,H0' a=none/\¬ai σ ρ' a:=by
 refine⟨r.mono t.stp.s0 (fun _ n=>n) (fun a vs _ h=>t.stp.s1 a _ h (st.iD h)) fun a ha=>?_,fun a ha=>?_⟩
 ·obtain⟨_,xs,h⟩:=r.fpN a ha;rw[(t.bR h (k a ha).1 (k a ha).2).1,h]
 ·obtain⟨_,xs,h⟩:=r.fpN a ha;exact(t.bR h (k a ha).1 (k a ha).2).2
def nR(σ:L2.St)(ρ:Dm.Env)(H:Hp)(a:Addr):Prop:=H a=none\/ai σ ρ a
def dS(σ:L2.St)(ρ:Dm.Env)(H0:Hp)(fp:List Addr):Prop:=fp.Nodup/\∀a∈fp,H0 a=none/\¬ai σ ρ a
def tDp(f:Dm.FP):TE:=fun σ H Q=>∃H0 ρ p ρ',av H0 H σ ρ/\f ρ=some (p,ρ')/\∀v H0' H' fp,ESt σ ρ H0 H ρ' H0' H'->bF (nR σ ρ H) H0' H' v p fp->dS σ ρ' H0' fp->Q v H'
def Dh(fs:List Dm.FP):TA:=fun σ H Q=>∃H0 ρ ps ρ',av H0 H σ ρ/\Dm.pAs fs ρ=some (ps,ρ')/\∀vs H0' H' fp,ESt σ ρ H0 H ρ' H0' H'->aG (nR σ ρ H) H0' H' vs ps fp->dS σ ρ' H0' fp->Q vs H'
noncomputable abbrev DP(X:Cx)(e:Expr)(f:Dm.FP):Prop:=PE X e (tDp f)
noncomputable abbrev DPA(X:Cx)(es:List Expr)(fs:List Dm.FP):Prop:=PA X es (Dh fs)
section
variable{σ:L2.St}{H:Hp}{Q:VK}
theorem Rw{f:Dm.FE}(h:tDp (Dm.pO f) σ H Q):tD f σ H Q:=by
 obtain⟨H0,ρ,p,ρ',st,e,k⟩:=h;unfold Dm.pO at e;split at e
 ·rename_i d ρ1 e1;cases e;exact⟨H0,ρ,_,_,st,e1,fun v H0' H' t r=>k v H0' H' [] t (.s r) ⟨Vx,fun a h=>by cases h⟩⟩
 ·rename_i ds ρ1 e1;cases e;refine⟨H0,ρ,_,_,st,e1,fun v H0' H' t r=>?_⟩;obtain⟨a,rfl,n,no,n0,xs,y,rs⟩:=r;refine k _ H0' H' [a] t (.l (.inl n) y (.mK rs)) ⟨by simp,fun b hb=>?_⟩;rw[SY.mp hb];exact⟨n0,no⟩
 ·rename_i i ρ1 e1;split at e
  ·rename_i ds h1;cases e;refine⟨H0,ρ,_,_,st,e1,fun v H0' H' t r=>?_⟩;obtain⟨q,_⟩:=r;obtain⟨a,q',n0,xs,y,rs⟩:=t.st.ow i _ h1;rw[q]at q';cases q';have ow:ai σ ρ1 a:=⟨i,_,h1,q⟩
   refine k _ H0' H' [a] ⟨t.st.mask i,t.stp,fun b z=>?_,fun j z=>trivial⟩ (.l (.inr (t.own a ow)) y (.mK rs)) ⟨by simp,fun b hb=>?_⟩
   ·obtain⟨j,d2,_,z1,z2⟩:=bE z;exact t.own b ⟨j,d2,z1,z2⟩
   ·rw[SY.mp hb];refine⟨n0,fun z=>?_⟩;obtain⟨j,d2,hj,z1,z2⟩:=bE z;exact hj (t.st.dis j i d2 _ a z1 h1 z2 q)
  ·rename_i d h1;cases e;refine⟨H0,ρ,_,_,st,e1,fun v H0' H' t r=>?_⟩;obtain⟨q,_⟩:=r;obtain⟨u,q',w⟩:=t.st.sh i d h1;rw[q]at q';cases q';exact k _ H0' H' [] t (.s w) ⟨Vx,fun a h=>by cases h⟩
  ·cases e
 ·cases e
theorem LQ{Q:List V->Hp->Prop}(h:Dh [] σ H Q):kI σ H Q:=by obtain⟨H0,ρ,xs,ρ',st,e,k⟩:=h;cases e;exact k [] H0 H [] (.refl st) .nil ⟨Vx,fun a h=>by cases h⟩
theorem nR.back{σ:L2.St}{ρ ρ1:Dm.Env}{H0 H H1 Hb:Hp}(t:ESt σ ρ H0 H ρ1 H1 Hb){a:Addr}(n:nR σ ρ1 Hb a):nR σ ρ H a:=n.elim (fun z=>.inl (t.stp.gone z)) fun z=>.inr (t.own a z)
theorem dS.app{σ:L2.St}{ρ1 ρ2:Dm.Env}{H1 Hb H2 Hc:Hp}{f fp:List Addr}(hf:f.Nodup)(h1:∀a∈f,(∃o,Hb a=some o)/\¬ai σ ρ1 a)(h2:∀a∈f,H2 a=none/\¬ai σ ρ2 a)(g:dS σ ρ2 H2 fp)(gn:∀a∈fp,nR σ ρ1 Hb a):dS σ ρ2 H2 (f++fp):=by
 refine⟨Tv.mpr ⟨hf,g.1,fun a ha b hb z=>?_⟩,fun a ha=>(S4.mp ha).elim (h2 a) (g.2 a)⟩;subst z;obtain⟨⟨o,q1⟩,q2⟩:=h1 a ha;rcases gn a hb with z | z
 ·rw[q1]at z;cases z
 ·exact q2 z
theorem Hu{f:Dm.FP}{fs:List Dm.FP}{Q:List V->Hp->Prop}(h:Dh (f::fs) σ H Q):eG (tDp f) (Dh fs) σ H Q:=by
 obtain⟨H0,ρ,xs,ρ',st,e,k⟩:=h;unfold Dm.pAs at e;split at e
 ·cases e
 rename_i x1 ρ1 e1;split at e
 ·cases e
 rename_i xs1 ρ2 e2;cases e;refine⟨H0,ρ,x1,ρ1,st,e1,fun v H1 Hb f1 t1 r1 g1=>⟨H1,ρ1,xs1,_,t1.st,e2,fun vs H2 Hc f2 t2 r2 g2=>?_⟩⟩;obtain⟨m1,m2⟩:=r1.est t1.st t2 g1.2;refine k (v::vs) H2 Hc (f1++f2) (t1.trans t2) (.cons m1 (r2.mono (ak.refl _) (fun a n=>nR.back t1 n) (fun _ _ _ h=>h) fun _ _=>rfl)) (dS.app (H1:=H1) (Hc:=Hc) g1.1 (fun a ha=>⟨?_,(g1.2 a ha).2⟩) m2 g2 fun a ha=>(r2.fpN a ha).1);obtain⟨_,ys,h⟩:=r1.fpN a ha;exact⟨_,h⟩
theorem LR{fs:List Dm.FP}(h:tDp (Dm.pT fs) σ H Q):Gp (Dh fs) σ H Q:=by
 obtain⟨H0,ρ,x,ρ',st,e,k⟩:=h;unfold Dm.pT at e;split at e
 ·cases e
 rename_i ps ρ1 e1;split at e
 case isFalse=>cases e
 rename_i hz;cases e;refine⟨H0,ρ,ps,_,st,e1,fun vs H1 Hb fp t1 r1 g1=>⟨by rw[r1.length];exact jW hz,fun a ha=>?_⟩⟩;have g:=aD.gb (o:=HO.tup vs) t1.st.same ha;have t2:=ESt.grow t1.st g;refine k _ H1 _ fp (t1.trans t2) (.t (.inl (t1.stp.gone ha)) ao (r1.mono g.s0 (fun _ n=>n) (fun b us _ h=>g.s1 b _ h) fun b hb=>?_)) g1;obtain⟨_,xs,h⟩:=r1.fpN b hb;rw[g.s1 b _ h,h]
end
section
variable{X:Cx}{e:Expr}{es:List Expr}{f:Dm.FE}{fp:Dm.FP}{fps:List Dm.FP}{pos:Pos}
theorem p_o(h:DE X e f):DP X e (Dm.pO f):=PE.weak h fun _ _ _=>Rw
theorem Rx:DPA X [] []:=PA.weak dM fun _ _ _=>LQ
theorem OY(h:DP X e fp)(r:DPA X es fps)(hs:starEach (e::es) X.env=(false,eval e X.env)::starEach es X.env:=by rfl):DPA X (e::es) (fp::fps):=PA.weak (b4 h r hs) fun _ _ _=>Hu
theorem OZ{x1}(h:DPA X es fps):DP X (.Tuple es x1 pos) (Dm.pT fps):=PE.weak (w_ h) fun _ _ _=>LR
end
def spP(f:List Dm.Dat->Option Dm.Dp):Sp:=fun vs H Q _=>∃H0 ds p,ak H0 H/\az H0 vs ds/\f ds=some p/\∀v H0' H' fp,aD H0 H H0' H'->bF (fun a=>H a=none) H0' H' v p fp->fp.Nodup->(∀a∈fp,H0' a=none)->Q v H'
def tDP(g:Dm.FSP):TS:=fun D σ H=>∃H0 ρ p,av H0 H σ ρ/\g ρ=some p/\∀σ' ρ' v H0' H' fp,SSt σ ρ H0 H σ' ρ' H0' H'->bF (nR σ ρ H) H0' H' v p fp->fp.Nodup->(∀a∈fp,H0' a=none)->D.rt v H'
noncomputable abbrev DQs(X:Cx)(st:List Stmt)(g:Dm.FSP):Prop:=PSs X st (tDP g)
section
variable{D:Ends}{σ:L2.St}{H:Hp}
section
variable{vs:List V}{ds:List Dm.Dat}{g:Dm.FSP}{n m:Nat}{N:List Str}{E:XK}{Q:VK}
theorem Ry{f:Dm.FP}(h:tDP (Dm.qR f) D σ H):Au (tDp f) D σ H:=by
 obtain⟨H0,ρ,p,st,e,k⟩:=h;unfold Dm.qR at e;split at e
 ·cases e
 rename_i p' ρ1 e1;cases e;exact⟨H0,ρ,_,ρ1,st,e1,fun v H0' H' fp t r g=>k σ ρ1 v H0' H' fp t.sst r g.1 fun a ha=>(g.2 a ha).1⟩
theorem LS{s:Dm.FS}(h:tDP (Dm.fC s g) D σ H):fU (tDS s) (tDP g) D σ H:=by
 obtain⟨H0,ρ,p,st,e,k⟩:=h;unfold Dm.fC at e;split at e
 case h_2=>cases e
 rename_i ρ1 e1;refine⟨H0,ρ,_,st,e1,fun σ1 H1 Hb t1=>⟨H1,ρ1,p,t1.st,e,fun σ2 ρ2 v H2 Hc fp t2 r nd n=>k σ2 ρ2 v H2 Hc fp (t1.trans t2) ?_ nd n⟩⟩;exact r.mono (ak.refl _) (fun a z=>z.elim (fun z=>.inl (t1.stp.gone z)) fun z=>(t1.own a z).elim .inr .inl) (fun _ _ _ h=>h) fun _ _=>rfl
theorem kg{m i:Nat}{c:Dm.Cell}(h:(ds.map Dm.Cell.sh++Sv m .un)[i]?=some c):(∃d,c=.sh d/\ds[i]?=some d)\/c=.un:=by
 by_cases hi:i<ds.length
 ·rw[SM (by simpa using hi),SS]at h;cases q:ds[i]? with
  |none=>rw[q]at h;cases h
  |some y=>rw[q]at h;cases h;exact .inl ⟨y,rfl,rfl⟩
 ·rw[Tc (by simpa using hi),Tz]at h;split at h<;>cases h
  exact .inr rfl
theorem Di{H0 H:Hp}(hm:N.length=n+m)(hn:ds.length=n)(s:ak H0 H)(rs:az H0 vs ds) :
  av H0 H (start N vs) (ds.map Dm.Cell.sh++Sv m .un)/\∀a,¬ai (start N vs) (ds.map Dm.Cell.sh++Sv m .un) a:=by
 have hl:=rs.length;refine⟨⟨s,?_,fun i d h=>?_,fun i d h=>?_,fun i j d e a h1 h2 _ _=>?_⟩,fun a ⟨i,d,h1,_⟩=>?_⟩
 ·unfold L2.start;simp only[SJ,Ss,Ut];omega
 ·rcases kg h with⟨d',z,q⟩ | z
  ·cases z;obtain⟨v,hv,r⟩:=rs.get q;have hi:i<vs.length:=(Su.mp hv).1;refine⟨v,?_,r⟩;unfold L2.start;rw[SM (by simpa using hi),SS,hv];rfl
  ·cases z
 ·rcases kg h with⟨d',z,q⟩ | z<;>cases z
 ·rcases kg h1 with⟨d',z,q⟩ | z<;>cases z
 ·rcases kg h1 with⟨d',z,q⟩ | z<;>cases z
theorem sJ{H:Hp}(h:spP (Dm.fnP n m g) vs H Q E):vs.length=n:=by
 obtain⟨H0,ds,z,s,rs,e,k⟩:=h;unfold Dm.fnP at e;split at e
 ·rename_i hl;rw[rs.length];exact hl
 ·cases e
theorem Dj(hm:N.length=n+m)(h:spP (Dm.fnP n m g) vs H Q E) :
  tDP g { nx:=fun _ H'=>Q .non H',rt:=Q } (start N vs) H:=by
 obtain⟨H0,ds,p,s,rs,e,k⟩:=h;unfold Dm.fnP at e;split at e
 case isFalse=>cases e
 rename_i hl;obtain⟨st,no⟩:=Di hm hl s rs;refine⟨H0,_,p,st,e,fun σ' ρ' v H0' H' fp t r nd n=>k v H0' H' fp ⟨t.stp.s0,fun a o e=>t.stp.s1 a o e (no a),fun a o e=>(t.stp.s2 a o e).imp id fun q=>q.elim id fun z=>absurd z (no a),t.st.same⟩ ?_ nd n⟩;exact r.mono (ak.refl _) (fun a z=>z.elim id fun z=>absurd z (no a)) (fun _ _ _ h=>h) fun _ _=>rfl
end
end
section
variable{X:Cx}{e:Expr}{st:Stmt}{uX:List Stmt}{fp:Dm.FP}{fs:Dm.FS}{g:Dm.FSP}{pos:Pos}
theorem q_r(h:DP X e fp):DQs X [.Return (some e) pos] (Dm.qR fp):=cQ (PS.weak (mV h) fun _ _ _=>Ry)
theorem fD(h1:DS X st fs)(h2:DQs X uX g):DQs X (st::uX) (Dm.fC fs g):=PSs.weak (aY h1 h2) fun _ _ _=>LS
end
theorem av.nS{H0 H:Hp}{σ:L2.St}{ρ:Dm.Env}(st:av H0 H σ ρ)(j:Nat)(v:Option V):av H0 H (σ.set j v) (ρ.set j .un)/\∀a,ai (σ.set j v) (ρ.set j .un) a->ai σ ρ a:=by
 refine⟨⟨st.same,by rw[Td,Td];exact st.len,fun i d h=>?_,fun i d h=>?_,fun i i' d d' a h1 h2 h3 h4=>?_⟩,fun a ⟨i,d,h1,h2⟩=>?_⟩
 ·rcases aJ h with⟨_,z⟩ | ⟨hij,h⟩
  ·cases z
  ·obtain⟨v,q,r⟩:=st.sh i d h;exact⟨v,by rw[eg (Ne.symm hij)];exact q,r⟩
 ·rcases aJ h with⟨_,z⟩ | ⟨hij,h⟩
  ·cases z
  ·obtain⟨v,q,r⟩:=st.ow i d h;exact⟨v,by rw[eg (Ne.symm hij)];exact q,r⟩
 ·rcases aJ h1 with⟨_,z⟩ | ⟨q1,h1⟩
  ·cases z
  rcases aJ h2 with⟨_,z⟩ | ⟨q2,h2⟩
  ·cases z
  rw[eg (Ne.symm q1)]at h3;rw[eg (Ne.symm q2)]at h4;exact st.dis i i' d d' a h1 h2 h3 h4
 ·rcases aJ h1 with⟨_,z⟩ | ⟨hij,h1⟩
  ·cases z
  ·rw[eg (Ne.symm hij)]at h2;exact⟨i,d,h1,h2⟩
structure MS(j:Nat)(σs:L2.St)(ρs:Dm.Env)(H0s Hs:Hp)(σ:L2.St)(ρ:Dm.Env)(H0 H:Hp)(p:Dm.Dp):Prop where
 st:av H0 H σ ρ
 stp:Stp (ai σs ρs) H0s Hs H0 H
 own:∀a,ai σ ρ a->ai σs ρs a\/Hs a=none
 fx:σ[0]?=σs[0]?
 ex:∃v fp,σ[j]?=some (some v)/\bF (fun a=>Hs a=none) H0 H v p fp/\dS σ ρ H0 fp
section
variable{j:Nat}{σs:L2.St}{ρs:Dm.Env}{H0s Hs:Hp}{σ:L2.St}{ρ ρ':Dm.Env}{H0 H H0' H':Hp}{p:Dm.Dp}
theorem MS.sst(n:MS j σs ρs H0s Hs σ ρ H0 H p):SSt σs ρs H0s Hs σ ρ H0 H:=⟨n.st,n.stp,n.own,n.fx⟩
theorem MS.est(n:MS j σs ρs H0s Hs σ ρ H0 H p)(t:ESt σ ρ H0 H ρ' H0' H'):MS j σs ρs H0s Hs σ ρ' H0' H' p:=by obtain⟨v,fp,h1,h2,h3⟩:=n.ex;obtain⟨m1,m2⟩:=h2.est n.st t h3.2;exact⟨t.st,n.stp.trans t.stp n.own,fun a z=>n.own a (t.own a z),n.fx,v,fp,h1,m1,h3.1,m2⟩
theorem MS.grow(n:MS j σs ρs H0s Hs σ ρ H0 H p)(g:aD H0 H H0' H'):MS j σs ρs H0s Hs σ ρ H0' H' p:=n.est (.grow n.st g)
open Classical in
noncomputable def bor(H0 H:Hp)(N:Addr->Prop):Hp:=fun a=>match H0 a with
 |some o=>some o
 |none=>if N a then H a else none
theorem gA{N:Addr->Prop}:ak H0 (bor H0 H N):=fun a o e=>by unfold bor;rw[e]
theorem gR{N:Addr->Prop}(s:ak H0 H):ak (bor H0 H N) H:=fun a o e=>by
 unfold bor at e;split at e
 ·rename_i q;cases e;exact s _ _ q
 ·split at e
  ·exact e
  ·cases e
theorem nT{N:Addr->Prop}(s:ak H0 H){a:Addr}{o:HO}(n:N a)(h:H a=some o):bor H0 H N a=some o:=by
 unfold bor;split
 ·rename_i o' q;rw[<- h];exact(s _ _ q).symm
 ·rw[if_pos n];exact h
def Look(Hs:Hp)(σ:L2.St)(ρ:Dm.Env)(a:Addr):Prop:=Hs a=none\/ai σ ρ a
theorem iE{j:Nat}{σ:L2.St}{ρ:Dm.Env}{p:Dm.Dp}{a:Addr}:¬ai σ (Dm.see j ρ p) a:=fun⟨i,d,h1,_⟩=>by
 unfold Dm.see Dm.zp at h1;rw[SS]at h1;cases q:(ρ.set j (.sh p.dat))[i]? with
 |none=>rw[q]at h1;cases h1
 |some c=>rw[q]at h1;cases c<;>cases h1
theorem MS.see(n:MS j σs ρs H0s Hs σ ρ H0 H p):av (bor H0 H (Look Hs σ ρ)) H σ (Dm.see j ρ p):=by
 obtain⟨v,fp,h1,h2,h3⟩:=n.ex;refine⟨gR n.st.same,by unfold Dm.see Dm.zp;rw[Ss,Td];exact n.st.len,fun i d h=>?_,fun i d h=>?_,fun i i' d d' a z1 z2 z3 z4=>?_⟩
 ·unfold Dm.see Dm.zp at h;rw[SS]at h;cases q:(ρ.set j (.sh p.dat))[i]? with
  |none=>rw[q]at h;cases h
  |some c=>
   rw[q]at h;rcases aJ q with⟨rfl,rfl⟩ | ⟨_,q⟩
   ·cases h;exact⟨v,h1,h2.rep gA fun a o z w=>nT n.st.same (.inl z) w⟩
   ·cases c with
    |un=>cases h
    |sh d'=>cases h;obtain⟨u,w1,w2⟩:=n.st.sh i d q;exact⟨u,w1,w2.mono gA⟩
    |ow d'=>
     cases h;obtain⟨a,w1,w2,w3⟩:=n.st.ow i d q;have lk:Look Hs σ ρ a:=.inr ⟨i,d,q,w1⟩;refine⟨_,w1,?_⟩;cases d with
     |lst ds=>obtain⟨xs,y,rs⟩:=w3;exact .lst (.inl (nT n.st.same lk y)) (rs.mono gA)
     |dct ks ds=>obtain⟨xs,y,k,rs⟩:=w3;exact .dct (nT n.st.same lk y) k (rs.mono gA)
     |_=>exact w3.elim
 ·exact(iE (σ:=Sv (i+1) (some (V.ref 0))) (a:=0) ⟨i,d,h,by rw[Tz,if_pos (UX i)]⟩).elim
 ·exact(iE ⟨i,d,z1,z3⟩).elim
theorem MS.seen(n:MS j σs ρs H0s Hs σ ρ H0 H p){Hb:Hp}(t:ESt σ (Dm.see j ρ p) Hb H ρ' H0' H'):aD H0 H H0 H':=
 ⟨ak.refl _,fun a o e=>t.stp.s1 a o e iE,fun a o e=>.inr e,n.st.same.trans fun a o e=>t.stp.s1 a o e iE⟩
end
def tDM(j:Nat)(g:Dm.FM):TS:=fun D σ H=>∃σs ρs H0s Hs H0 ρ p o,MS j σs ρs H0s Hs σ ρ H0 H p/\g ρ p=some o/\nk D σs ρs H0s Hs o
noncomputable abbrev DMs(X:Cx)(j:Nat)(st:List Stmt)(g:Dm.FM):Prop:=PSs X st (tDM j g)
section
variable{D:Ends}{σ:L2.St}{H:Hp}{j:Nat}
theorem LU{gs:Dm.FS}(h:tDM j (Dm.A_ gs) D σ H):tDS gs D σ H:=by obtain⟨σs,ρs,H0s,Hs,H0,ρ,p,o,n,e,k⟩:=h;exact⟨H0,ρ,o,n.st,e,k.pre n.sst⟩
theorem O0{t:Dm.FT}{fs:Dm.FS}{g:Dm.FM}(h:tDM j (Dm.mIf j t fs g) D σ H):fU (Av (tDT t) (tDS fs) qB) (tDM j g) D σ H:=by
 obtain⟨σs,ρs,H0s,Hs,H0,ρ,p,o,n,e,k⟩:=h;unfold Dm.mIf at e;split at e
 ·cases e
 ·rename_i ρ1 e1;refine⟨_,_,true,ρ1,n.see,e1,fun H1 Hb t1=>?_⟩;dsimp only;rw[if_pos rfl];have n1:=n.grow (n.seen t1);have k1:=k.pre n1.sst;split at e
  ·cases e
  ·rename_i hn;refine⟨H0,ρ,o,n1.st,e,?_⟩;cases o with
   |nx ρ'=>exact(hn ρ' e).elim
   |bk ρ'=>exact k1
   |ct ρ'=>exact k1
   |ret z ρ'=>exact k1
 ·rename_i ρ1 e1;refine⟨_,_,false,ρ1,n.see,e1,fun H1 Hb t1=>?_⟩;dsimp only;rw[if_neg S3];exact⟨σs,ρs,H0s,Hs,H0,ρ,p,o,n.grow (n.seen t1),e,k⟩
theorem MS.wr{σs:L2.St}{ρs:Dm.Env}{H0s Hs:Hp}{ρ:Dm.Env}{H0:Hp}{p:Dm.Dp}(n:MS j σs ρs H0s Hs σ ρ H0 H p){a:Addr}(h1:Hs a=none)(h2:H0 a=none)(h3:¬ai σ ρ a)(o:HO):SSt σs ρs H0s Hs σ ρ H0 (upd H a o):=
 ⟨n.st.aside h2 h3,n.stp.aside h1,n.own,n.fx⟩
end
section
variable{X:Cx}{e c:Expr}{uX:List Stmt}{fs gs:Dm.FS}{g:Dm.FM}{pos:Pos}{j:Nat}
theorem O3(h:DSs X uX gs):DMs X j uX (Dm.A_ gs):=PSs.weak h fun _ _ _=>LU
theorem LV{t:Dm.FT}{x:List Stmt}(ht:DT X c t)(ha:DSs X x fs)(hr:DMs X j uX g):DMs X j (.If c x [] pos::uX) (Dm.mIf j t fs g):=PSs.weak (aY (tX ht ha jI) hr) fun _ _ _=>O0
end
end Br
namespace Dm
mutual
noncomputable def iF:Dat->Bool
 |.tup xs=>h_ xs
 |.lst _=>false
 |.dct _ _=>false
 |.exc _=>false
 |_=>true
noncomputable def h_:List Dat->Bool
 |[]=>true
 |x::r=>iF x&&h_ r
end
mutual
noncomputable def aI:Dp->Bool
 |.s d=>iF d
 |.l xs=>aQ xs
 |.t xs=>aQ xs
noncomputable def aQ:List Dp->Bool
 |[]=>true
 |x::r=>aI x&&aQ r
end
noncomputable def LW(bd:FB)(el:FP):List Dat->Env->List Dp->Option (List Dp×Env)
 |[],ρ,En=>some (En,ρ)
 |d::r,ρ,En=>match bd d ρ with
  |none=>none
  |some ρ1=>match el ρ1 with
   |none=>none
   |some (p,ρ2)=>LW bd el r ρ2 (En++[p])
inductive OM where
 |nx (ρ:Env) (p:Dp)
 |rt (d:Dat) (ρ:Env)
noncomputable abbrev FC:=Env->Dp->Option OM
noncomputable def cNx:FC:=fun ρ p=>some (.nx ρ p)
noncomputable def uI(s u:FC):FC:=fun ρ p=>match s ρ p with
 |some (.nx ρ1 p1)=>u ρ1 p1
 |o=>o
noncomputable def cIf(j:Nat)(t:FT)(a b:FC):FC:=fun ρ p=>match t (see j ρ p) with
 |none=>none
 |some (true,_)=>a ρ p
 |some (false,_)=>b ρ p
noncomputable def cA(j i:Nat)(e:FE):FC:=fun ρ p=>if i=0\/i=j then none else match e (see j ρ p) with
 |some (.val d,_)=>if dg d then none else some (.nx (ρ.set i (.sh d)) p)
 |_=>none
noncomputable def qV(j i:Nat)(f:FP):FC:=fun ρ p=>if i=0\/i=j then none else match f (see j ρ p) with
 |none=>none
 |some (q,_)=>if aI q then some (.nx (ρ.set i (.sh q.dat)) p) else none
noncomputable def qu(s:FC)(g:FM):FM:=fun ρ p=>match s ρ p with
 |some (.nx ρ1 p1)=>g ρ1 p1
 |some (.rt d ρ1)=>some (.ret (.val d) ρ1)
 |none=>none
end Dm
namespace Br
open PySem PySem.Spec PyProof.Rows L2
mutual
theorem Rep.xV{H0 H1:Hp}(k:∀a vs,H0 a=some (.tup vs)->H1 a=some (.tup vs)):∀{v:V} {d:Dm.Dat},Rep H0 v d->Dm.iF d=true->Rep H1 v d
 |_,_,.non,_=>.non
 |_,_,.bl b,_=>.bl b
 |_,_,.int i,_=>.int i
 |_,_,.str x,_=>.str x
 |_,_,.tup h r,e=>.tup (k _ _ h) (az.xV k r (by unfold Dm.iF at e;exact e))
 |_,_,.lst _ _,e=>by unfold Dm.iF at e;cases e
 |_,_,.dct _ _ _,e=>by unfold Dm.iF at e;cases e
 |_,_,.exc _,e=>by unfold Dm.iF at e;cases e
 |_,_,.fn a,_=>.fn a
theorem az.xV{H0 H1:Hp}(k:∀a vs,H0 a=some (.tup vs)->H1 a=some (.tup vs)):∀{vs:List V} {ds:List Dm.Dat},az H0 vs ds->Dm.h_ ds=true->az H1 vs ds
 |_,_,.nil,_=>.nil
 |_,_,.cons h r,e=>by unfold Dm.h_ at e;rw[SQ]at e;exact .cons (Rep.xV k h e.1) (az.xV k r e.2)
end
def Hv(D:Ends)(j:Nat)(σs:L2.St)(ρs:Dm.Env)(H0s Hs H0:Hp):Dm.OM->Prop
 |.nx ρ' p'=>∀σ' H0' H',MS j σs ρs H0s Hs σ' ρ' H0' H' p'->ak H0 H0'->D.nx σ' H'
 |.rt d ρ'=>∀σ' v H0' H' p',MS j σs ρs H0s Hs σ' ρ' H0' H' p'->Rep H0' v d->D.rt v H'
def tDC(j:Nat)(g:Dm.FC):TS:=fun D σ H=>∃σs ρs H0s Hs H0 ρ p o,MS j σs ρs H0s Hs σ ρ H0 H p/\g ρ p=some o/\Hv D j σs ρs H0s Hs H0 o
theorem Hv.up{D:Ends}{j:Nat}{σs:L2.St}{ρs:Dm.Env}{H0s Hs H0 H1:Hp}{o:Dm.OM}(k:Hv D j σs ρs H0s Hs H0 o)(s:ak H0 H1):Hv D j σs ρs H0s Hs H1 o:=by
 cases o with
 |nx ρ' p'=>exact fun σ' H0' H' n q=>k σ' H0' H' n (s.trans q)
 |rt d ρ'=>exact k
noncomputable abbrev DC(X:Cx)(j:Nat)(st:Stmt)(g:Dm.FC):Prop:=PS X st (tDC j g)
noncomputable abbrev DCs(X:Cx)(j:Nat)(st:List Stmt)(g:Dm.FC):Prop:=PSs X st (tDC j g)
section
variable{j:Nat}{σs:L2.St}{ρs:Dm.Env}{H0s Hs:Hp}{σ:L2.St}{ρ ρ':Dm.Env}{H0 H H0' H':Hp}{p q:Dm.Dp}
theorem MS.bind(n:MS j σs ρs H0s Hs σ ρ H0 H p){σ':L2.St}{ρ':Dm.Env}(st:av H0 H σ' ρ')(o:∀a,ai σ' ρ' a->ai σ ρ a)(hj:σ'[j]?=σ[j]?)(h0:σ'[0]?=σ[0]?):MS j σs ρs H0s Hs σ' ρ' H0 H p:=by obtain⟨v,fp,h1,h2,h3⟩:=n.ex;exact⟨st,n.stp,fun a z=>n.own a (o a z),h0.trans n.fx,v,fp,hj.trans h1,h2,h3.1,fun a ha=>⟨(h3.2 a ha).1,fun z=>(h3.2 a ha).2 (o a z)⟩⟩
theorem MS.set(n:MS j σs ρs H0s Hs σ ρ H0 H p){i:Nat}{v:V}{d:Dm.Dat}(hi:i≠0)(hj:i≠j)(r:Rep H0 v d):MS j σs ρs H0s Hs (σ.set i (some v)) (ρ.set i (.sh d)) H0 H p:=
 n.bind (n.st.r9 r) (fun _ z=>dh z) (eg hj) (eg hi)
open Classical in
noncomputable def cpy(Hs H0 H H0' H':Hp):Hp:=fun a=>match H0 a with
 |some o=>some o
 |none=>if H a=none then H' a else match H0' a with
  |some (.tup vs)=>if Hs a=none then some (.tup vs) else none
  |_=>none
theorem eu:ak H0 (cpy Hs H0 H H0' H'):=fun a o e=>by unfold cpy;rw[e]
theorem gS(s:ak H0 H){a:Addr}(h:H a=none):cpy Hs H0 H H0' H' a=H' a:=by unfold cpy;rw[s.free h];dsimp only;rw[if_pos h]
theorem cM{a:Addr}{o:HO}(e:cpy Hs H0 H H0' H' a=some o):H0 a=some o\/(H a=none/\H' a=some o)\/(Hs a=none/\H0' a=some o/\∃vs,o=.tup vs):=by
 unfold cpy at e;split at e
 ·rename_i q;cases e;exact .inl q
 ·split at e
  ·rename_i h;exact .inr (.inl ⟨h,e⟩)
  ·split at e
   ·rename_i vs q;split at e
    ·rename_i h;cases e;exact .inr (.inr ⟨h,q,vs,rfl⟩)
    ·cases e
   ·cases e
mutual
theorem bF.copy{N:Addr->Prop}(kn:∀a o,N a->H' a=some o->cpy Hs H0 H H0' H' a=some o)(kt:∀a vs,H0' a=some (.tup vs)->cpy Hs H0 H H0' H' a=some (.tup vs)):∀{v:V} {p:Dm.Dp} {fp:List Addr},bF N H0' H' v p fp->Dm.aI p=true->Rep (cpy Hs H0 H H0' H') v p.dat
 |_,_,_,.s r,e=>by unfold Dm.aI at e;exact Rep.xV kt r e
 |_,_,_,.l n h r,e=>.lst (.inl (kn _ _ n h)) (aG.copy kn kt r (by unfold Dm.aI at e;exact e))
 |_,_,_,.t n h r,e=>.tup (kn _ _ n h) (aG.copy kn kt r (by unfold Dm.aI at e;exact e))
theorem aG.copy{N:Addr->Prop}(kn:∀a o,N a->H' a=some o->cpy Hs H0 H H0' H' a=some o)(kt:∀a vs,H0' a=some (.tup vs)->cpy Hs H0 H H0' H' a=some (.tup vs)):∀{vs:List V} {ps:List Dm.Dp} {fp:List Addr},aG N H0' H' vs ps fp->Dm.aQ ps=true->az (cpy Hs H0 H H0' H') vs (Dm.Dp.sI ps)
 |_,_,_,.nil,_=>.nil
 |_,_,_,.cons h r,e=>by unfold Dm.aQ at e;rw[SQ]at e;exact .cons (bF.copy kn kt h e.1) (aG.copy kn kt r e.2)
end
theorem MS.keep(n:MS j σs ρs H0s Hs σ ρ H0 H p)(t:ESt σ (Dm.see j ρ p) (bor H0 H (Look Hs σ ρ)) H ρ' H0' H'){v:V}{fq:List Addr}(r:bF (nR σ (Dm.see j ρ p) H) H0' H' v q fq)(e:Dm.aI q=true) :
  MS j σs ρs H0s Hs σ ρ (cpy Hs H0 H H0' H') H' p/\Rep (cpy Hs H0 H H0' H') v q.dat:=by
 have up:ak H H':=fun a o e=>t.stp.s1 a o e iE;have lst:∀{a:Addr} {o:HO},H0 a=none->H a=some o->(∀vs,o≠.tup vs)->cpy Hs H0 H H0' H' a=none:=fun {a o} h0 h nt=>by
  cases z:cpy Hs H0 H H0' H' a with
  |none=>rfl
  |some u=>
   rcases cM z with y | ⟨y,_⟩ | ⟨_,y,vs,rfl⟩
   ·rw[h0]at y;cases y
   ·rw[h]at y;cases y
   ·have:=t.st.same _ _ y;rw[up _ _ h]at this;cases this;exact absurd rfl (nt vs)
 obtain⟨w,fp,h1,h2,h3⟩:=n.ex;have stp:Stp (ai σs ρs) H0s Hs (cpy Hs H0 H H0' H') H':=by
  refine⟨n.stp.s0.trans eu,fun a o e' no=>up _ _ (n.stp.s1 a o e' no),fun a o e'=>?_,fun a o e'=>?_⟩
  ·rcases cM e' with y | ⟨y,_⟩ | ⟨y,_⟩
   ·exact n.stp.s2 a o y
   ·exact .inl (n.stp.gone y)
   ·exact .inl y
  ·obtain⟨o',q⟩:=n.stp.s3 a o e';exact⟨o',up _ _ q⟩
 refine⟨⟨⟨fun a o e'=>?_,n.st.len,fun i d h=>?_,fun i d h=>?_,n.st.dis⟩,stp,n.own,n.fx,w,fp,h1,h2.mono eu (fun _ z=>z) (fun a vs _ h=>up _ _ h) fun a ha=>?_,h3.1,fun a ha=>⟨?_,(h3.2 a ha).2⟩⟩,?_⟩
 ·rcases cM e' with y | ⟨_,y⟩ | ⟨_,y,_⟩
  ·exact up _ _ (n.st.same _ _ y)
  ·exact y
  ·exact t.st.same _ _ y
 ·obtain⟨u,z,y⟩:=n.st.sh i d h;exact⟨u,z,y.mono eu⟩
 ·obtain⟨a,z,n0,y⟩:=n.st.ow i d h;obtain⟨o,ho⟩:=y.some;refine⟨a,z,lst n0 ho fun vs e'=>?_,y.mono eu ((up _ _ ho).trans ho.symm)⟩;subst e';exact n.st.iD ho ⟨i,d,h,z⟩
 ·obtain⟨_,xs,h⟩:=h2.fpN a ha;rw[up _ _ h,h]
 ·obtain⟨_,xs,h⟩:=h2.fpN a ha;exact lst (h3.2 a ha).1 h fun vs z=>by cases z
 ·refine r.copy (fun a o z h=>?_) (fun a vs h=>?_) e
  ·rcases z with z | z
   ·rw[gS n.st.same z];exact h
   ·exact(iE z).elim
  ·rcases t.stp.s2 a _ h with z | z | z
   ·rw[gS n.st.same z];exact t.st.same _ _ h
   ·have hH:=gR n.st.same _ _ z;unfold bor at z;split at z
    ·rename_i o q;cases z;exact eu _ _ q
    ·rename_i q;split at z
     ·rename_i lk;rcases lk with lk | lk
      ·unfold cpy;rw[q];dsimp only;rw[if_neg (by rw[hH];simp),h];dsimp only;rw[if_pos lk]
      ·exact(n.st.iD hH lk).elim
     ·cases z
   ·exact(iE z).elim
end
section
variable{D:Ends}{σ:L2.St}{H:Hp}{j:Nat}
theorem O4(h:tDC j Dm.cNx D σ H):qB D σ H:=by obtain⟨σs,ρs,H0s,Hs,H0,ρ,p,o,n,e,k⟩:=h;cases e;exact k σ H0 H n (ak.refl _)
theorem LX{s u:Dm.FC}(h:tDC j (Dm.uI s u) D σ H):fU (tDC j s) (tDC j u) D σ H:=by
 obtain⟨σs,ρs,H0s,Hs,H0,ρ,p,o,n,e,k⟩:=h;unfold Dm.uI at e;split at e
 ·rename_i ρ1 p1 e1;exact⟨σs,ρs,H0s,Hs,H0,ρ,p,_,n,e1,fun σ' H0' H' n' s1=>⟨σs,ρs,H0s,Hs,H0',ρ1,p1,o,n',e,k.up s1⟩⟩
 ·rename_i hn;cases o with
  |nx ρ1 p1=>exact(hn _ _ e).elim
  |rt d ρ1=>exact⟨σs,ρs,H0s,Hs,H0,ρ,p,_,n,e,k⟩
theorem O5{t:Dm.FT}{a b:Dm.FC}(h:tDC j (Dm.cIf j t a b) D σ H):Av (tDT t) (tDC j a) (tDC j b) D σ H:=by
 obtain⟨σs,ρs,H0s,Hs,H0,ρ,p,o,n,e,k⟩:=h;unfold Dm.cIf at e;split at e
 ·cases e
 ·rename_i ρ1 e1;refine⟨_,_,true,ρ1,n.see,e1,fun H1 Hb t1=>?_⟩;dsimp only;rw[if_pos rfl];exact⟨σs,ρs,H0s,Hs,H0,ρ,p,o,n.grow (n.seen t1),e,k⟩
 ·rename_i ρ1 e1;refine⟨_,_,false,ρ1,n.see,e1,fun H1 Hb t1=>?_⟩;dsimp only;rw[if_neg S3];exact⟨σs,ρs,H0s,Hs,H0,ρ,p,o,n.grow (n.seen t1),e,k⟩
theorem Rz{i:Nat}{f:Dm.FE}(h:tDC j (Dm.cA j i f) D σ H):jK (tD f) (cH i) D σ H:=by
 obtain⟨σs,ρs,H0s,Hs,H0,ρ,p,o,n,e,k⟩:=h;unfold Dm.cA at e;split at e
 ·cases e
 rename_i hij;split at e
 case h_2=>cases e
 rename_i d ρ1 e1;split at e
 ·cases e
 rename_i nb;cases e;refine⟨_,_,_,ρ1,n.see,e1,fun v H1 Hb t1 r1=>k _ H0 Hb ((n.grow (n.seen t1)).set (fun z=>hij (.inl z)) (fun z=>hij (.inr z)) (Rep.plain r1 (by simpa using nb))) (ak.refl _)⟩
theorem Hw{i:Nat}{f:Dm.FP}(h:tDC j (Dm.qV j i f) D σ H):jK (tDp f) (cH i) D σ H:=by
 obtain⟨σs,ρs,H0s,Hs,H0,ρ,p,o,n,e,k⟩:=h;unfold Dm.qV at e;split at e
 ·cases e
 rename_i hij;split at e
 ·cases e
 rename_i q ρ1 e1;split at e
 case isFalse=>cases e
 rename_i lk;cases e;refine⟨_,_,_,ρ1,n.see,e1,fun v H1 Hb fq t1 r1 g1=>?_⟩;obtain⟨n1,r⟩:=n.keep t1 r1 lk;exact k _ _ Hb (n1.set (fun z=>hij (.inl z)) (fun z=>hij (.inr z)) r) eu
theorem LY{s:Dm.FC}{g:Dm.FM}(h:tDM j (Dm.qu s g) D σ H):fU (tDC j s) (tDM j g) D σ H:=by
 obtain⟨σs,ρs,H0s,Hs,H0,ρ,p,o,n,e,k⟩:=h;unfold Dm.qu at e;split at e
 ·rename_i ρ1 p1 e1;exact⟨σs,ρs,H0s,Hs,H0,ρ,p,_,n,e1,fun σ' H0' H' n' _=>⟨σs,ρs,H0s,Hs,H0',ρ1,p1,o,n',e,k⟩⟩
 ·rename_i d ρ1 e1;cases e;exact⟨σs,ρs,H0s,Hs,H0,ρ,p,_,n,e1,fun σ' v H0' H' p' n' r=>k σ' v H0' H' n'.sst r fun d' a z=>by cases z⟩
 ·cases e
end
section
variable{X:Cx}{st:Stmt}{uX:List Stmt}{fs gs:Dm.FC}{g:Dm.FM}{e c:Expr}{f:Dm.FE}{pos:Pos}{j:Nat}
theorem m_c(h:DC X j st fs)(hr:DMs X j uX g):DMs X j (st::uX) (Dm.qu fs g):=PSs.weak (aY h hr) fun _ _ _=>LY
theorem O6:DCs X j [] Dm.cNx:=PSs.weak jI fun _ _ _=>O4
theorem LZ(h1:DC X j st fs)(h2:DCs X j uX gs):DCs X j (st::uX) (Dm.uI fs gs):=PSs.weak (aY h1 h2) fun _ _ _=>LX
theorem O7(h1:DC X j st fs):DCs X j [st] fs:=cQ h1
theorem RA{t:Dm.FT}{x y:List Stmt}(ht:DT X c t)(ha:DCs X j x fs)(hb:DCs X j y gs):DC X j (.If c x y pos) (Dm.cIf j t fs gs):=PS.weak (tX ht ha hb) fun _ _ _=>O5
theorem c_a(i:Nat){x:Str}{pos':Pos}(hN:X.N.Nodup)(he:DE X e f)(hi:X.N[i]?=some x:=by rfl)(hx:Loc X.env.scope x:=by trivial)(hs:swapsWith e (some (.Name x pos')) pos.line X.env=pure false:=by rfl)
  (hf:X.fn x=true\/X.env.scope.names.lookup x=some .local:=by trivial):DC X j (.Assign [.Name x pos'] e pos) (Dm.cA j i f):=PS.weak (kH hN hi hx he hs hf) fun _ _ _=>Rz
theorem L0(i:Nat){x:Str}{pos':Pos}{fp:Dm.FP}(hN:X.N.Nodup)(he:DP X e fp)(hi:X.N[i]?=some x:=by rfl)(hx:Loc X.env.scope x:=by trivial)(hs:swapsWith e (some (.Name x pos')) pos.line X.env=pure false:=by rfl)
  (hf:X.fn x=true\/X.env.scope.names.lookup x=some .local:=by trivial):DC X j (.Assign [.Name x pos'] e pos) (Dm.qV j i fp):=PS.weak (kH hN hi hx he hs hf) fun _ _ _=>Hw
end
end Br
namespace Dm
noncomputable def lW(f:List Dat->Option Dp)(as:List FE):FP:=fun ρ=>match eAs as ρ with
 |none=>none
 |some (xs,ρ1)=>match tks ρ1 xs with
  |none=>none
  |some (ds,ρ2)=>match f ds with
   |none=>none
   |some p=>some (p,ρ2)
noncomputable def pIx(f:FP)(z:Int):FP:=fun ρ=>match f ρ with
 | some (.t xs,ρ1)=>(match ixN xs.length z with
  |none=>none
  |some m=>match xs[m]? with
   |none=>none
   |some x=>some (x,ρ1))
 |_=>none
noncomputable def uJ(t:FT)(e:FE)(g:FSP):FSP:=fun ρ=>match t ρ with
 |none=>none
 | some (true,ρ1)=>(match e ρ1 with
  |some (.val d,_)=>some (.s d)
  |_=>none)
 |some (false,ρ1)=>g ρ1
noncomputable def iG(j:Nat)(f:List Dat->Option Dp)(as:List FE)(g:FM):FS:=fun ρ=>if j=0 then none else match eAs as ρ with
 |none=>none
 |some (xs,ρ1)=>match pks ρ1 xs with
  |none=>none
  |some ds=>match f ds with
   |none=>none
   |some p=>if aI p then g (ρ1.set j .un) p else none
end Dm
namespace Br
open PySem PySem.Spec PyProof.Rows L2
theorem aG.L1{N:Addr->Prop}{H0 H:Hp}:∀{vs:List V} {ps:List Dm.Dp} {fp:List Addr} {i:Nat} {p:Dm.Dp},aG N H0 H vs ps fp->ps[i]?=some p->∃v f,vs[i]?=some v/\bF N H0 H v p f/\f.Sublist fp
 |_,_,_,_,_,.nil,e=>by simp at e
 |_,_,_,0,_,.cons h _,e=>by simp at e;subst e;exact⟨_,_,rfl,h,List.sublist_append_left _ _⟩
 |_,_,_,i+1,_,.cons _ r,e=>by obtain⟨v,f,h1,h2,h3⟩:=aG.L1 (i:=i) r (by simpa using e);exact⟨v,f,by simpa using h1,h2,h3.trans (List.sublist_append_right _ _)⟩
section
variable{σ:L2.St}{H:Hp}{Q:VK}
theorem Hx{f:List Dm.Dat->Option Dm.Dp}{fs:List Dm.FE}{E:XK}(h:tDp (Dm.lW f fs) σ H Q):jN (spP f) [] E (tDA fs) σ H Q:=by
 obtain⟨H0,ρ,p,ρ',st,e,k⟩:=h;unfold Dm.lW at e;split at e
 ·cases e
 rename_i xs ρ1 e1;split at e
 ·cases e
 rename_i ds ρ2 e2;split at e
 ·cases e
 rename_i p' ep;cases e;refine⟨H0,ρ,xs,ρ1,st,e1,fun vs H1 Hb t1 r1=>?_⟩;dsimp only;rw[Tu];obtain⟨H2,t2,b2,r2⟩:=takes t1 (ak.refl _) r1 e2;refine⟨H2,ds,p,t2.st.same,r2,ep,fun v H3 Hd fp g3 r3 nd n3=>?_⟩;exact k v H3 Hd fp (t2.trans (.grow t2.st g3)) (r3.mono (ak.refl _) (fun a n=>.inl (t2.stp.gone n)) (fun _ _ _ h=>h) fun _ _=>rfl) ⟨nd,fun a ha=>⟨n3 a ha,t2.st.bh (r3.fpN a ha).1⟩⟩
theorem O8{K:gc}{f:Dm.FP}{z:Int}(h:tDp (Dm.pIx f z) σ H Q):tOp (AI K) (tDp f) (tC (.int z)) σ H Q:=by
 obtain⟨H0,ρ,p,ρ',st,e,k⟩:=h;unfold Dm.pIx at e;split at e
 case h_2=>cases e
 rename_i xs ρ1 e1;split at e
 ·cases e
 rename_i m em;split at e
 ·cases e
 rename_i x hx;cases e;refine⟨H0,ρ,_,_,st,e1,fun v H1 Hb fp t1 r1 g1=>?_⟩;cases r1 with
 |t hN ha rs=>rename_i a vs;obtain⟨u,f',hu,ru,sb⟩:=rs.L1 hx;refine⟨a,vs,z,u,rfl,rfl,.of ha,?_,k u H1 Hb f' t1 ru ⟨g1.1.sublist sb,fun b hb=>g1.2 b (sb.subset hb)⟩⟩;show (L2.ixN vs.length z).bind (fun j=>vs[j]?)=_;rw[<- xB,rs.length,em];exact hu
end
section
variable{D:Ends}{σ:L2.St}{H:Hp}{j:Nat}
theorem L3{t:Dm.FT}{f:Dm.FE}{g:Dm.FSP}(h:tDP (Dm.uJ t f g) D σ H):fU (Av (tDT t) (Au (tD f)) qB) (tDP g) D σ H:=by
 obtain⟨H0,ρ,p,st,e,k⟩:=h;unfold Dm.uJ at e;split at e
 ·cases e
 ·rename_i ρ1 e1;split at e
  case h_2=>cases e
  rename_i d ρ2 e2;cases e;refine⟨H0,ρ,true,ρ1,st,e1,fun H1 Hb t1=>?_⟩;dsimp only;rw[if_pos rfl];exact⟨H1,ρ1,_,ρ2,t1.st,e2,fun v H2 Hc t2 r2=>k σ ρ2 v H2 Hc [] (t1.trans t2).sst (.s r2) Vx fun a h=>by cases h⟩
 ·rename_i ρ1 e1;refine⟨H0,ρ,false,ρ1,st,e1,fun H1 Hb t1=>?_⟩;dsimp only;rw[if_neg S3];refine⟨H1,ρ1,p,t1.st,e,fun σ' ρ' v H0' H' fp t r nd n=>k σ' ρ' v H0' H' fp (t1.sst.trans t) ?_ nd n⟩;exact r.mono (ak.refl _) (fun a z=>nR.back t1 z) (fun _ _ _ h=>h) fun _ _=>rfl
end
section
variable{N N':Addr->Prop}{H3 H0' H:Hp}
mutual
theorem bF.leaf(kn:∀a,N a->N' a)(kt:∀a vs,H3 a=some (.tup vs)->H0' a=some (.tup vs)):∀{v:V} {p:Dm.Dp} {fp:List Addr},bF N H3 H v p fp->Dm.aI p=true->bF N' H0' H v p fp
 |_,_,_,.s r,e=>.s (Rep.xV kt r (by unfold Dm.aI at e;exact e))
 |_,_,_,.l n h r,e=>.l (kn _ n) h (aG.leaf kn kt r (by unfold Dm.aI at e;exact e))
 |_,_,_,.t n h r,e=>.t (kn _ n) h (aG.leaf kn kt r (by unfold Dm.aI at e;exact e))
theorem aG.leaf(kn:∀a,N a->N' a)(kt:∀a vs,H3 a=some (.tup vs)->H0' a=some (.tup vs)):∀{vs:List V} {ps:List Dm.Dp} {fp:List Addr},aG N H3 H vs ps fp->Dm.aQ ps=true->aG N' H0' H vs ps fp
 |_,_,_,.nil,_=>.nil
 |_,_,_,.cons h r,e=>by unfold Dm.aQ at e;rw[SQ]at e;exact .cons (bF.leaf kn kt h e.1) (aG.leaf kn kt r e.2)
end
end
theorem nU{Hs H0 H:Hp}{σ:L2.St}{ρ:Dm.Env}(st:av H0 H σ ρ):∀{xs:List Dm.Val} {vs:List V} {ds:List Dm.Dat},cT Hs H0 H σ ρ vs xs->Dm.pks ρ xs=some ds->az (bor H0 H (Look Hs σ ρ)) vs ds
 |[],_,ds,.nil,e=>by cases e;exact .nil
 |x::xs,_,ds,.cons h r,e=>by
  unfold Dm.pks at e;split at e
  ·cases e
  rename_i d e1;split at e
  ·cases e
  rename_i ds' e2;cases e;refine .cons ?_ (nU st r e2);have own:∀(a:Addr),Look Hs σ ρ a->Own H0 H a d->Rep (bor H0 H (Look Hs σ ρ)) (.ref a) d:=fun a lk w=>by
   cases d with
   |lst ds=>obtain⟨xs,y,rs⟩:=w;exact .lst (.inl (nT st.same lk y)) (rs.mono gA)
   |dct ks ds=>obtain⟨xs,y,k,rs⟩:=w;exact .dct (nT st.same lk y) k (rs.mono gA)
   |_=>exact w.elim
  cases x with
  |val d'=>cases e1;exact Rep.mono gA h
  |new d'=>cases e1;obtain⟨a,rfl,n,no,n0,w⟩:=h;exact own a (.inl n) w
  |slot i=>
   obtain⟨q,_⟩:=h;unfold Dm.pk at e1;dsimp only at e1;split at e1
   ·rename_i d' hd;cases e1;obtain⟨a,w1,w2,w3⟩:=st.ow i _ hd;rw[q]at w1;cases w1;exact own a (.inr ⟨i,_,hd,q⟩) w3
   ·rename_i d' hd;cases e1;obtain⟨u,w1,w2⟩:=st.sh i _ hd;rw[q]at w1;cases w1;exact w2.mono gA
   ·cases e1
section
variable{D:Ends}{σ:L2.St}{H:Hp}{j:Nat}
theorem Hy{f:List Dm.Dat->Option Dm.Dp}{fs:List Dm.FE}{g:Dm.FM}{E:XK}(hj:j<σ.length)(h:tDS (Dm.iG j f fs g) D σ H):fU (jK (jN (spP f) [] E (tDA fs)) (cH j)) (tDM j g) D σ H:=by
 obtain⟨H0,ρ,o,st,e,k⟩:=h;unfold Dm.iG at e;split at e
 ·cases e
 rename_i hj0;split at e
 ·cases e
 rename_i xs ρ1 e1;split at e
 ·cases e
 rename_i ds e2;split at e
 ·cases e
 rename_i p ep;split at e
 case isFalse=>cases e
 rename_i lk;refine⟨H0,ρ,xs,ρ1,st,e1,fun vs H1 Hb t1 r1=>?_⟩;dsimp only;rw[Tu];refine⟨bor H1 Hb (Look H σ ρ1),ds,p,gR t1.st.same,nU t1.st r1 e2,ep,fun v H3 Hd fp g3 r3 nd n3=>?_⟩;have up:ak Hb Hd:=g3.s1;have cpE:∀{a:Addr} {u:HO},cpy H H1 Hb H3 Hd a=some u->H1 a=some u\/(Hb a=none/\Hd a=some u)\/(H a=none/\H3 a=some u/\∃vs,u=.tup vs):=fun e=>cM e;have kt:∀a us,H3 a=some (.tup us)->cpy H H1 Hb H3 Hd a=some (.tup us):=fun a us h=>by
  rcases g3.s2 a _ h with z | z
  ·rw[gS t1.st.same z];exact g3.s3 _ _ h
  ·have hH:=gR t1.st.same _ _ z;unfold bor at z;split at z
   ·rename_i o q;cases z;exact eu _ _ q
   ·rename_i q;split at z
    ·rename_i lk;rcases lk with lk | lk
     ·unfold cpy;rw[q];dsimp only;rw[if_neg (by rw[hH];simp),h];dsimp only;rw[if_pos lk]
     ·exact(t1.st.iD hH lk).elim
    ·cases z
 have lst:∀{a:Addr} {u:HO},H1 a=none->Hb a=some u->(∀us,u≠.tup us)->cpy H H1 Hb H3 Hd a=none:=fun {a u} h0 h nt=>by
  cases z:cpy H H1 Hb H3 Hd a with
  |none=>rfl
  |some w=>
   rcases cpE z with y | ⟨y,_⟩ | ⟨_,y,us,rfl⟩
   ·rw[h0]at y;cases y
   ·rw[h]at y;cases y
   ·have:=g3.s3 _ _ y;rw[up _ _ h]at this;cases this;exact absurd rfl (nt us)
 let H4:Hp:=fun a=>if a∈fp then none else cpy H H1 Hb H3 Hd a
 have h4:∀{a:Addr} {u:HO},H4 a=some u->cpy H H1 Hb H3 Hd a=some u/\a∉fp:=fun {a u} e=>by
  show cpy H H1 Hb H3 Hd a=some u/\_;have e:(if a∈fp then none else cpy H H1 Hb H3 Hd a)=some u:=e;split at e
  ·cases e
  ·rename_i h;exact⟨e,h⟩
 have h4i:∀{a:Addr} {u:HO},cpy H H1 Hb H3 Hd a=some u->a∉fp->H4 a=some u:=fun {a u} e n=>by show (if a∈fp then none else cpy H H1 Hb H3 Hd a)=some u;rw[if_neg n];exact e
 have nfp:∀a∈fp,Hb a=none/\∃ys,Hd a=some (.lst ys):=fun a ha=>r3.fpN a ha;have up4:ak H1 H4:=fun a u e'=>h4i (eu _ _ e') fun z=>by have:=t1.st.same _ _ e';rw[(nfp a z).1]at this;cases this
 have st4:av H4 Hd σ ρ1:=by
  refine⟨fun a u e'=>?_,t1.st.len,fun i d h=>?_,fun i d h=>?_,t1.st.dis⟩
  ·rcases cpE (h4 e').1 with y | ⟨_,y⟩ | ⟨_,y,_⟩
   ·exact up _ _ (t1.st.same _ _ y)
   ·exact y
   ·exact g3.s3 _ _ y
  ·obtain⟨u,z,y⟩:=t1.st.sh i d h;exact⟨u,z,y.mono up4⟩
  ·obtain⟨a,z,n0,y⟩:=t1.st.ow i d h;obtain⟨w,hw⟩:=y.some;refine⟨a,z,?_,y.mono up4 ((up _ _ hw).trans hw.symm)⟩;have:=lst n0 hw fun us e'=>by subst e';exact t1.st.iD hw ⟨i,d,h,z⟩
   show (if a∈fp then none else cpy H H1 Hb H3 Hd a)=none;rw[this];split<;>rfl
 obtain⟨s1,s2⟩:=st4.nS j (some v);refine⟨σ,ρ,H0,H,H4,_,p,o,⟨s1,⟨t1.stp.s0.trans up4,fun a u e' no=>up _ _ (t1.stp.s1 a u e' no),fun a u e'=>?_,fun a u e'=>?_⟩,fun a z=>.inl (t1.own a (s2 a z)),eg hj0,v,fp,SR hj,r3.leaf (fun a n=>t1.stp.gone n) (fun a us h=>h4i (kt a us h) fun z=>?_) lk,nd,fun a ha=>⟨?_,fun z=>t1.st.bh (nfp a ha).1 (s2 a z)⟩⟩,e,k⟩
 ·rcases cpE (h4 e').1 with y | ⟨y,_⟩ | ⟨y,_⟩
  ·exact t1.stp.s2 a u y
  ·exact .inl (t1.stp.gone y)
  ·exact .inl y
 ·obtain⟨o',q⟩:=t1.stp.s3 a u e';exact⟨o',up _ _ q⟩
 ·obtain⟨_,ys,y⟩:=nfp a z;have:=g3.s3 _ _ h;rw[y]at this;cases this
 ·show (if a∈fp then none else cpy H H1 Hb H3 Hd a)=none;rw[if_pos ha]
end
section
variable{X:Cx}{e c:Expr}{es:List Expr}{uX:List Stmt}{fs:List Dm.FE}{f:Dm.FE}{fp:Dm.FP}{gq:Dm.FSP}{g ga:Dm.FM}{pos p:Pos}{j:Nat}
section
variable{fd:FuncData}{ps:List Str}{F:Addr}{k:Nat}
theorem Dl{h:List Dm.Dat->Option Dm.Dp}{x:Str}(G:aP X.prog X.w X.K X.mg X.base CX0 k F fd ps (spP h))(hr:bq k X.A)(hg:Gl X x)(hm:X.mg x=some (.ref F))(hk:TY X.K (.ref F)=true)(hb:Binds X.K fd ps [])
  (ha:DA X (e::es) fs) (RS:(x == ("__debug__" : Str))=false:=by decide) (he:starEach (e::es) X.env=(false,eval e X.env)::starEach es X.env:=by rfl) (HL:(backTo pos (starEach es X.env)).any (·.1)=false:=by rfl) :
  DP X (.Call (.Name x p) (e::es) [] pos) (Dm.lW h fs):=PE.weak (dY G hr hg hm hk hb .nil (lG (X:=X)) ha RS he HL) fun _ _ _=>Hx
theorem RB{i:Int}{jc}{ip:Pos}(h:DP X e fp)(hs:fh (.Constant (.int i) jc ip):=by intro _ _;rfl):DP X (.Subscript e (.Constant (.int i) jc ip) pos) (Dm.pIx fp i):=PE.weak (qG m7 h mT hs) fun _ _ _=>O8
theorem O9{t:Dm.FT}{pos':Pos}(ht:DT X c t)(he:DE X e f)(hr:DQs X uX gq):DQs X (.If c [.Return (some e) pos'] [] pos::uX) (Dm.uJ t f gq):=PSs.weak (aY (tX ht (cQ (mV he)) jI) hr) fun _ _ _=>L3
theorem Hz(j:Nat){f:List Dm.Dat->Option Dm.Dp}{x y:Str}{as:List Dm.FE}{pos' cpos:Pos}(hN:X.N.Nodup)(G:aP X.prog X.w X.K X.mg X.base CX0 k F fd ps (spP f))(hr:bq k X.A)(hg:Gl X x)(hm:X.mg x=some (.ref F))(hk:TY X.K (.ref F)=true)(hb:Binds X.K fd ps [])
  (ha:DA X (e::es) as) (hre:DMs X j uX g) (hi:X.N[j]?=some y:=by rfl) (hx:Loc X.env.scope y:=by trivial) (hs:swapsWith (.Call (.Name x p) (e::es) [] cpos) (some (.Name y pos')) pos.line X.env=pure false:=by rfl)
  (hf:X.fn y=true\/X.env.scope.names.lookup y=some .local:=by trivial) (RS:(x == ("__debug__" : Str))=false:=by decide) (he:starEach (e::es) X.env=(false,eval e X.env)::starEach es X.env:=by rfl) (HL:(backTo cpos (starEach es X.env)).any (·.1)=false:=by rfl) :
  DSs X (.Assign [.Name y pos'] (.Call (.Name x p) (e::es) [] cpos) pos::uX) (Dm.iG j f as g):=by
 have h:=aY (kH hN hi hx (dY G hr hg hm hk hb .nil (lG (X:=X)) ha RS he HL) hs hf) hre;intro uW s σ H D I q;exact h uW s σ H D I (Hy (by rw[I.len];exact(Su.mp hi).1) q)
end
end
section
variable{N:Addr->Prop}{H3 H5 H:Hp}
theorem aN.O_{H0 H:Hp}:∀{ps:List Addr} {rows:List (List Dm.Dat)},aN H0 H ps rows->(∀p∈ps,N p)->aG N H0 H (ps.map V.ref) (rows.map fun r=>.l (r.map .s)) ps
 |[],[],_,_=>.nil
 |p::ps,r::rs,h,n=>by obtain⟨⟨xs,h1,h2⟩,h3⟩:=h;exact .cons (.l (n p Sw) h1 (.mK h2)) (aN.O_ h3 fun q hq=>n q (Sy _ hq))
mutual
theorem bF.share(kt:∀a us,N a->H a=some (.tup us)->H5 a=some (.tup us))(ks:∀a us,H3 a=some (.tup us)->H5 a=some (.tup us)):∀{v:V} {p:Dm.Dp} {fp:List Addr},bF N H3 H v p fp->(∀a∈fp,H5 a=H a)->Dm.aI p=true->Rep H5 v p.dat
 |_,_,_,.s r,_,e=>Rep.xV ks r (by unfold Dm.aI at e;exact e)
 |_,_,_,.l n h r,k,e=>.lst (.inl ((k _ Sw).trans h)) (aG.share kt ks r (fun a ha=>k a (Sy _ ha)) (by unfold Dm.aI at e;exact e))
 |_,_,_,.t n h r,k,e=>.tup (kt _ _ n h) (aG.share kt ks r k (by unfold Dm.aI at e;exact e))
theorem aG.share(kt:∀a us,N a->H a=some (.tup us)->H5 a=some (.tup us))(ks:∀a us,H3 a=some (.tup us)->H5 a=some (.tup us)):∀{vs:List V} {ps:List Dm.Dp} {fp:List Addr},aG N H3 H vs ps fp->(∀a∈fp,H5 a=H a)->Dm.aQ ps=true->az H5 vs (Dm.Dp.sI ps)
 |_,_,_,.nil,_,_=>.nil
 |_,_,_,.cons h r,k,e=>by unfold Dm.aQ at e;rw[SQ]at e;exact .cons (bF.share kt ks h (fun a ha=>k a (Tf _ ha)) e.1) (aG.share kt ks r (fun a ha=>k a (S5 _ ha)) e.2)
end
end
end Br
namespace Sx
open PySem PySem.SetTable
theorem sL(xs:Array Nat)(j:Nat)(hs:xs.toList.Pairwise (· < ·)):∀(f lo hi:Nat),hi<=xs.size->hi-lo<=f->lo<=hi->(∀i,i<lo->∀v,xs[i]?=some v->v<j)->(∀i,hi<=i->∀v,xs[i]?=some v->j<=v) ->
  (∀i,i<below.go xs j f lo hi->∀v,xs[i]?=some v->v<j)/\(∀i,below.go xs j f lo hi<=i->∀v,xs[i]?=some v->j<=v)/\below.go xs j f lo hi<=xs.size
 |0,lo,hi,h1,h2,h3,a,b=>by
  unfold below.go;have:lo=hi:=by omega
  subst this;exact⟨a,b,h1⟩
 |f+1,lo,hi,h1,h2,h3,a,b=>by
  unfold below.go;have mono:∀i k v w,i<=k->xs[i]?=some v->xs[k]?=some w->v<=w:=fun i k v w hik e1 e2=>by
   rcases VE hik with z | z
   ·subst z;rw[e1]at e2;cases e2;exact SA _
   ·obtain⟨q1,q2⟩:=T9.mp e1;obtain⟨q3,q4⟩:=T9.mp e2;have:=UD.mp hs i k (by simpa using q1) (by simpa using q3) z;simp only[Vq]at this;omega
  split
  ·rename_i HY;have hm:(lo+hi) / 2<xs.size:=by omega
   dsimp only;rw[Tg,SO hm,Option.getD_some];split
   ·rename_i hv;refine sL xs j hs f _ hi h1 (by omega) (by omega) (fun i hi' v e=>?_) b;have:=mono i ((lo+hi) / 2) v _ (by omega) e (SO hm);omega
   ·rename_i hv;refine sL xs j hs f lo _ (by omega) (by omega) (by omega) a fun i hi' v e=>?_;have:=mono ((lo+hi) / 2) i _ v hi' (SO hm) e;omega
  ·have:lo=hi:=by omega
   subst this;exact⟨a,b,h1⟩
theorem cN{xs:Array Nat}(j:Nat)(hs:xs.toList.Pairwise (· < ·)):(∀i,i<below xs j->∀v,xs[i]?=some v->v<j)/\(∀i,below xs j<=i->∀v,xs[i]?=some v->j<=v)/\below xs j<=xs.size:=
 sL xs j hs xs.size 0 xs.size (SA _) (by omega) (S6 _) (fun i h=>by omega) fun i h v e=>by rw[Vi h]at e;cases e
theorem qW{xs:Array Nat}{j:Nat}(hs:xs.toList.Pairwise (· < ·)):xs[below xs j]?=some j↔j∈xs.toList:=by
 obtain⟨a,b,c⟩:=cN j hs;constructor
 ·intro h;obtain⟨q1,q2⟩:=T9.mp h;rw[<- q2];exact Array.getElem_mem_toList q1
 ·intro h;obtain⟨i,hi,e⟩:=U3 h;have hi':i<xs.size:=by simpa using hi
  have e':xs[i]?=some j:=by rw[SO hi'];simpa using e
  have h1:below xs j<=i:=UC.mp fun z=>by have:=a i z j e';omega
  have hb:below xs j<xs.size:=by omega
  have h2:=b (below xs j) (SA _) _ (SO hb);rcases VE h1 with z | z
  ·rw[z];exact e'
  ·have:=UD.mp hs (below xs j) i (by simpa using hb) hi z;simp only[Vq]at this;have e2:xs[i]=j:=by simpa using e
   omega
theorem gB{α:Type}(xs:Array α)(p:Nat)(x:α):(insertAt xs p x).toList=xs.toList.take p++x::xs.toList.drop p:=by unfold insertAt;simp[Array.toList_append,Array.toList_push,Array.toList_extract,List.take_of_length_le]
theorem qv{xs:Array Nat}{j:Nat}(hs:xs.toList.Pairwise (· < ·))(hj:j∉xs.toList):(insertAt xs (below xs j) j).toList.Pairwise (· < ·):=by
 obtain⟨a,b,c⟩:=cN j hs;rw[gB];have l1:∀v∈xs.toList.take (below xs j),v<j:=fun v hv=>by
  obtain⟨i,hi,e⟩:=U3 hv;rw[TJ]at hi;rw[List.getElem_take]at e;refine a i (by omega) v ?_;rw[SO (by rw[SN]at hi;omega)]
  simpa using e
 have l2:∀v∈xs.toList.drop (below xs j),j<v:=fun v hv=>by
  have hm:=List.mem_of_mem_drop hv;obtain⟨i,hi,e⟩:=U3 hv;rw[UH,SN]at hi;rw[List.getElem_drop]at e;have:=b (below xs j+i) (by omega) v (by rw[SO (by omega)];simpa using e);rcases VE this with z | z
  ·exact absurd (z▸hm) hj
  ·exact z
 rw[List.pairwise_append];refine⟨hs.sublist (List.take_sublist _ _),?_,fun u hu v hv=>?_⟩
 ·rw[T4];exact⟨l2,hs.sublist (List.drop_sublist _ _)⟩
 ·rcases SD.mp hv with rfl | hv
  ·exact l1 u hu
  ·exact Vo (l1 u hu) (l2 v hv)
noncomputable def lp(mask:Nat):Nat->Nat×Nat->Nat×Nat
 |0,q=>q
 |m+1,q=>lp mask m (leap mask q.1 q.2)
noncomputable def lc(mask:Nat):Nat->Nat->Nat
 |0,i=>i
 |m+1,i=>lc mask m ((i*5+1) % (mask+1))
theorem zq(mask:Nat):∀m i,lp mask m (i,0)=(lc mask m i,0)
 |0,_=>rfl
 |m+1,i=>by unfold lp lc leap;simp only[Nat.zero_div,Wg];exact zq mask m _
theorem Dq(mask:Nat):∀a b q,lp mask (a+b) q=lp mask b (lp mask a q)
 |0,b,q=>by rw[VS];rfl
 |a+1,b,q=>by rw[Nat.add_right_comm];show lp mask (a+b) (leap mask q.1 q.2)=lp mask b (lp mask a (leap mask q.1 q.2));exact Dq mask a b _
theorem Dr(mask:Nat):∀m q,(lp mask m q).2=q.2 / 32 ^ m
 |0,q=>by simp[lp]
 |m+1,q=>by show (lp mask m (leap mask q.1 q.2)).2=_;rw[Dr mask m];unfold leap;dsimp only;rw[Nat.div_div_eq_div_mul,Nat.pow_succ,Nat.mul_comm]
theorem zu(mask:Nat):∀m q,q.1<=mask->(lp mask m q).1<=mask
 |0,_,h=>h
 |m+1,q,h=>zu mask m _ (by unfold leap;exact VP (Wa _ (VU mask)))
def Cov(mask:Nat):Prop:=∀i,i<=mask->∀j,j<=mask->∃m,m<=mask/\lc mask m i=j
noncomputable def Pa(mask:Nat):Bool:=(SH (mask+1)).all fun i=>(SH (mask+1)).all fun j=>(SH (mask+1)).any fun m=>lc mask m i == j
theorem Dt{mask:Nat}(h:Pa mask=true):Cov mask:=fun i hi j hj=>by unfold Pa at h;have h1:=TM.mp h i (Tp.mpr (by omega));have h2:=TM.mp h1 j (Tp.mpr (by omega));obtain⟨m,hm,e⟩:=Vj.mp h2;have:=Tp.mp hm;exact⟨m,by omega,by simpa using e⟩
theorem RC:Cov 7:=Dt (by decide +kernel)
theorem Pb:Cov 31:=Dt (by decide +kernel)
noncomputable def orb(mask:Nat):Nat->Nat->List Nat
 |0,_=>[]
 |m+1,i=>i::orb mask m ((i*5+1) % (mask+1))
theorem Du(mask:Nat):∀(n i m:Nat),m<n->(orb mask n i)[m]?=some (lc mask m i)
 |0,i,m,h=>by omega
 |n+1,i,0,h=>rfl
 |n+1,i,m+1,h=>by show (orb mask n ((i*5+1) % (mask+1)))[m]?=_;rw[Du mask n _ m (by omega)];rfl
theorem sM(mask:Nat):∀(n i:Nat),(orb mask n i).length=n
 |0,_=>rfl
 |n+1,i=>by show (orb mask n _).length+1=_;rw[sM mask n]
theorem sN(mask:Nat):∀a b i,lc mask (a+b) i=lc mask b (lc mask a i)
 |0,b,i=>by rw[VS];rfl
 |a+1,b,i=>by rw[Nat.add_right_comm];show lc mask (a+b) _=lc mask b (lc mask a _);exact sN mask a b _
theorem Dv{mask:Nat}(h1:((SH (mask+1)).all fun j=>(orb mask (mask+1) 0).elem j)=true)(h2:lc mask (mask+1) 0=0):Cov mask:=fun i hi j hj=>by
 have look:∀x,x<=mask->∃m,m<=mask/\lc mask m 0=x:=fun x hx=>by have:=TM.mp h1 x (Tp.mpr (by omega));have:=List.elem_iff.mp this;obtain⟨m,hm,e⟩:=U3 this;rw[sM]at hm;have e2:=Du mask (mask+1) 0 m hm;rw[SK (by rw[sM];exact hm),e]at e2;cases e2;exact⟨m,by omega,rfl⟩
 obtain⟨a,ha,ea⟩:=look i hi;obtain⟨b,hb,eb⟩:=look j hj;by_cases h:a<=b
 ·exact⟨b-a,by omega,by rw[<- ea,<- sN,show a+(b-a)=b by omega];exact eb⟩
 ·exact⟨mask+1+b-a,by omega,by rw[<- ea,<- sN,show a+(mask+1+b-a)=mask+1+b by omega,sN,h2];exact eb⟩
theorem L5:Cov 127:=Dv (by decide +kernel) (by decide +kernel)
theorem zv(h:Int):bits h<2 ^ 64:=by unfold bits;have h1:(0:Int)<=h % 2 ^ 64:=Int.emod_nonneg _ (by decide);have h2:h % 2 ^ 64<2 ^ 64:=Int.emod_lt_of_pos _ (by decide);omega
theorem Mu{mask:Nat}(c:Cov mask){i p:Nat}(hi:i<=mask)(hp:p<2 ^ 64){j:Nat}(hj:j<=mask):∃m,m<mask+14/\(lp mask m (i,p)).1=j:=by
 have z:(lp mask 13 (i,p)).2=0:=by rw[Dr];exact Nat.div_eq_of_lt (SX hp (by decide))
 have hl:=zu mask 13 (i,p) hi;obtain⟨m,hm,e⟩:=c _ hl j hj;refine⟨13+m,by omega,?_⟩;rw[Dq,show lp mask 13 (i,p)=((lp mask 13 (i,p)).1,0) from Prod.ext rfl z,zq];exact e
theorem sub_len{l m:List Nat}(hl:l.Nodup)(h:∀x∈l,x∈m):l.length<=m.length:=by
 induction l generalizing m with
 |nil=>exact S6 _
 |cons x l ih=>
  obtain⟨n1,n2⟩:=SV.mp hl;have hx:x∈m:=h x Sw;have:=ih (m:=m.erase x) n2 fun y hy=>by rw[List.mem_erase_of_ne (fun z:y=x=>n1 (z▸hy))];exact h y (Sy _ hy)
  rw[List.length_erase_of_mem hx]at this;have:=List.length_pos_of_mem hx;simp only[S1];omega
theorem room{mask:Nat}{l:List Nat}(h:l.length<=mask):∃j,j<=mask/\j∉l:=by refine U6 fun z=>?_;have:=sub_len (l:=SH (mask+1)) (m:=l) List.nodup_range fun x hx=>U6 fun q=>z ⟨x,by have:=Tp.mp hx;omega,q⟩;rw[S9]at this;omega
theorem zw(j:Nat):has #[] j=false:=by unfold has;simp
structure Good(t:SetTable)(n:Nat):Prop where
 dm:t.dummies=#[]
 pl:t.plain=true
 cv:Cov t.mask
 ris:t.place.toList.Pairwise (· < ·)
 le:∀j∈t.place.toList,j<=t.mask
 sz:t.place.size=n
theorem Good.slot{t:SetTable}{n:Nat}(g:Good t n)(j:Nat):(j∉t.place.toList/\t.slot j=.empty)\/(j∈t.place.toList/\∃i,t.slot j=.live i):=by
 unfold SetTable.slot;by_cases h:j∈t.place.toList
 ·right;refine⟨h,below t.place j,?_⟩;dsimp only;rw[if_pos (by rw[(qW g.ris).mpr h];exact beq_self_eq_true _)]
 ·left;refine⟨h,?_⟩;dsimp only;rw [if_neg (by
   intro z;exact h ((qW g.ris).mp (by simpa using z))),if_neg (by
   rw[g.dm,zw];exact S3)]
noncomputable def Jj(mask i p:Nat):Probe:={ j:=i,more:=runEnd mask i-i,i:=i,perturb:=p,dummy:=none }
theorem HA{t:SetTable}{h:Int}{f k:Nat}{p:Probe}(q:t.slot p.j=.live k):probe.go t (fun _=>h+1) h (f+1) p=probe.go t (fun _=>h+1) h f (t.advance p):=by
 have nh:(h+1 == h)=false:=by rw[beq_eq_false_iff_ne];omega
 conv=>lhs;unfold probe.go
 rw[q];dsimp only;rw[nh];rfl
theorem Dw{t:SetTable}{h:Int}{f:Nat}{p:Probe}(q:t.slot p.j=.empty):probe.go t (fun _=>h+1) h (f+1) p=some (.empty p.j p.dummy):=by
 conv=>lhs;unfold probe.go
 rw[q]
theorem Dy{t:SetTable}{n:Nat}(g:Good t n){h:Int}{i p:Nat}:∀(d f j:Nat),j+d<=t.mask->d<f -> 
  (∃j',probe.go t (fun _=>h+1) h f { j:=j,more:=d,i:=i,perturb:=p,dummy:=none }=some (.empty j' none)/\j'<=t.mask/\j'∉t.place.toList) \/
  (probe.go t (fun _=>h+1) h f { j:=j,more:=d,i:=i,perturb:=p,dummy:=none }=probe.go t (fun _=>h+1) h (f-(d+1)) (Jj t.mask (leap t.mask i p).1 (leap t.mask i p).2)/\j∈t.place.toList)
 |d,0,j,h1,h2=>by omega
 |d,f+1,j,h1,h2=>by
  rcases g.slot j with⟨q1,q2⟩ | ⟨q1,k,q2⟩
  ·exact .inl ⟨j,Dw (p:={ j:=j,more:=d,i:=i,perturb:=p,dummy:=none }) q2,by omega,q1⟩
  ·rw[HA (p:={ j:=j,more:=d,i:=i,perturb:=p,dummy:=none }) q2];cases d with
   |zero=>exact .inr ⟨rfl,q1⟩
   |succ d=>
    have ea:t.advance { j:=j,more:=d+1,i:=i,perturb:=p,dummy:=none }={ j:=j+1,more:=d,i:=i,perturb:=p,dummy:=none }:=rfl;rw[ea];rcases Dy g (h:=h) (i:=i) (p:=p) d f (j+1) (by omega) (by omega) with z | ⟨z,_⟩
    ·exact .inl z
    ·refine .inr ⟨?_,q1⟩;rw[z,show f-(d+1)=f+1-(d+1+1) by omega]
theorem uK{t:SetTable}{n:Nat}(g:Good t n){h:Int}:∀(k f i p:Nat),i<=t.mask->10*k<=f->(∃m,m<k/\(lp t.mask m (i,p)).1∉t.place.toList) -> 
  ∃j',probe.go t (fun _=>h+1) h f (Jj t.mask i p)=some (.empty j' none)/\j'<=t.mask/\j'∉t.place.toList
 |0,f,i,p,_,_,⟨m,hm,_⟩=>by omega
 |k+1,f,i,p,hi,hf,⟨m,hm,e⟩=>by
  have hr:runEnd t.mask i-i<=9/\i+(runEnd t.mask i-i)<=t.mask:=by unfold runEnd;split<;>omega
  rcases Dy g (h:=h) (i:=i) (p:=p) (runEnd t.mask i-i) f i hr.2 (by omega) with z | ⟨z,q⟩
  ·exact z
  ·have hm0:m≠0:=fun y=>by subst y;exact e q
   obtain⟨m',rfl⟩:∃m',m=m'+1:=⟨m-1,by omega⟩
   obtain⟨j',a,b,c⟩:=uK g (h:=h) k (f-(runEnd t.mask i-i+1)) (leap t.mask i p).1 (leap t.mask i p).2 (zu t.mask 1 (i,p) hi) (by omega) ⟨m',by omega,e⟩;exact⟨j',z.trans a,b,c⟩
theorem uL{t:SetTable}{n:Nat}(g:Good t n)(hn:n<=t.mask)(h:Int):∃j,t.freeSlot h=some (j,false)/\j<=t.mask/\j∉t.place.toList:=by obtain⟨j0,h0,n0⟩:=room (mask:=t.mask) (l:=t.place.toList) (by rw[SN,g.sz];exact hn);have hi:bits h % (t.mask+1)<=t.mask:=VP (Wa _ (VU _));obtain⟨m,hm,e⟩:=Mu g.cv hi (zv h) h0;obtain⟨j,a,b,c⟩:=uK g (h:=h) (t.mask+14) (10*turns t.mask) (bits h % (t.mask+1)) (bits h) hi (by unfold turns;omega) ⟨m,hm,by rw[e];exact n0⟩;refine⟨j,?_,b,c⟩;unfold SetTable.freeSlot SetTable.probe;have a':probe.go t (fun _=>h+1) h (10*turns t.mask) (t.probeStart h)=some (.empty j none):=a;rw[a'];rfl
theorem xJ{t:SetTable}{n:Nat}(g:Good t n){j:Nat}(h1:j<=t.mask)(h2:j∉t.place.toList):Good (t.put j).1 (n+1)/\(t.put j).1.mask=t.mask/\(t.put j).1.led=t.led:=by
 have hl:(insertAt t.place (below t.place j) j).toList=_:=gB _ _ _;refine⟨⟨?_,g.pl,g.cv,qv g.ris h2,fun i hi=>?_,?_⟩,rfl,rfl⟩
 ·unfold SetTable.put;dsimp only;rw[g.dm];rw[zw];rfl
 ·have hi:i∈(insertAt t.place (below t.place j) j).toList:=hi;rw[hl]at hi;rcases S4.mp hi with hi | hi
  ·exact g.le i (List.mem_of_mem_take hi)
  ·rcases SD.mp hi with rfl | hi
   ·exact h1
   ·exact g.le i (List.mem_of_mem_drop hi)
 ·show (insertAt t.place (below t.place j) j).size=n+1;rw[<- SN,hl,SJ,S1,TJ,UH];have:=(cN j g.ris).2.2;have:=g.sz;rw[SN];omega
theorem Good.fits{t:SetTable}{n:Nat}(g:Good t n)(hn:n<=t.mask):t.fits n=true:=by unfold SetTable.fits SetTable.fill;rw[g.dm,g.sz];simp;exact hn
theorem Ba{t:SetTable}{es:Array (Int×Value)}(g:Good t es.size)(hn:es.size+1<=t.mask)(h:Int)(x:Value) :
  ∃es' t',layNew t es h x=(es',t',false,false)/\Good t' es'.size/\t'.mask=t.mask/\t'.led=t.led/\es'.toList.Perm (es.toList++[(h,x)]):=by
 obtain⟨j,a,b,c⟩:=uL g (by omega) h;obtain⟨g1,g2,g3⟩:=xJ g b c;have hl:(insertAt es (t.put j).2 (h,x)).toList=_:=gB _ _ _;have hz:(insertAt es (t.put j).2 (h,x)).size=es.size+1:=by rw[<- SN,hl,SJ,S1,TJ,UH];have:=(cN j g.ris).2.2;rw[g.sz]at this;have:(t.put j).2<=es.size:=this;rw[SN];omega
 refine⟨insertAt es (t.put j).2 (h,x),(t.put j).1,?_,by rw[hz];exact g1,g2,g3,?_⟩
 ·unfold layNew;rw[a];dsimp only;unfold SetTable.orStandIn;rw[hz,g1.fits (by rw[g2];exact hn)];rfl
 ·rw[hl];refine V5.trans List.perm_middle ?_;rw[List.take_append_drop];exact(List.perm_append_singleton _ _).symm
theorem gC{α β:Type}{f g:α->Option β}:∀{l:List α},(∀x∈l,f x=g x)->l.filterMap f=l.filterMap g
 |[],_=>rfl
 |x::l,h=>by rw[TH,TH,h x Sw,gC fun y hy=>h y (Sy _ hy)]
theorem Dz(f:Nat->Option Nat)(j0 k:Nat):∀(l:List Nat),l.Nodup->j0∈l->f j0=none->(l.filterMap (fun j=>if j=j0 then some k else f j)).Perm (k::l.filterMap f)
 |[],_,h,_=>by cases h
 |x::r,nd,h,h0=>by
  obtain⟨n1,n2⟩:=SV.mp nd;by_cases e:x=j0
  ·subst e;have er:r.filterMap (fun j=>if j=x then some k else f j)=r.filterMap f:=gC fun y hy=>by rw[if_neg fun z:y=x=>n1 (z▸hy)]
   rw[TH,if_pos rfl,TH,h0,er]
  ·have hr:j0∈r:=(SD.mp h).resolve_left fun z=>e z.symm;have ih:=Dz f j0 k r n2 hr h0;rw[TH,if_neg e,TH];cases f x with
   |none=>exact ih
   |some v=>exact(ih.cons v).trans (.swap _ _ _)
noncomputable def ow(owner:Array (Option Nat))(j:Nat):Option Nat:=owner.getD j none
noncomputable def lay(mask:Nat)(owner:Array (Option Nat)):List Nat:=(SH (mask+1)).filterMap (ow owner)
theorem zx{mask:Nat}{owner:Array (Option Nat)}(hs:owner.size=mask+1):∀(fuel i p:Nat),i<=mask->(∃m,m<fuel/\owner[(lp mask m (i,p)).1]?=some none)->∃j,layClean.free mask owner fuel i p=some j/\j<=mask/\owner[j]?=some none
 |0,i,p,_,⟨m,hm,_⟩=>by omega
 |fuel+1,i,p,hi,⟨m,hm,e⟩=>by
  have hr:i<=runEnd mask i/\runEnd mask i<=mask:=by unfold runEnd;split<;>omega
  unfold layClean.free;cases hf:(SH (runEnd mask i+1-i)).find? fun k=>(owner.getD (i+k) (some 0)).isNone with
  |some k=>
   dsimp only;have h1:=List.find?_some hf;have h2:=Tp.mp (List.mem_of_find?_eq_some hf);refine⟨i+k,rfl,by omega,?_⟩;have HY:i+k<owner.size:=by omega
   rw[Tg,SO HY,Option.getD_some]at h1;rw[SO HY];exact congrArg some (Option.isNone_iff_eq_none.mp h1)
  |none=>
   dsimp only;have h1:=Vb.mp hf 0 (Tp.mpr (by omega));have hm0:m≠0:=fun y=>by subst y;have e:owner[i]?=some none:=e;rw[Wg,Tg,e]at h1;exact h1 rfl
   obtain⟨m',rfl⟩:∃m',m=m'+1:=⟨m-1,by omega⟩
   exact zx hs fuel (leap mask i p).1 (leap mask i p).2 (zu mask 1 (i,p) hi) ⟨m',by omega,e⟩
theorem DB{mask:Nat}{owner:Array (Option Nat)}(hs:owner.size=mask+1)(hk:(lay mask owner).length<=mask):∃j,j<=mask/\owner[j]?=some none:=by
 obtain ⟨j,h1,h2⟩:=room (mask:=mask) (l:=(SH (mask+1)).filter fun j=>(ow owner j).isSome) (by
  have:∀l:List Nat,(l.filter fun j=>(ow owner j).isSome).length=(l.filterMap (ow owner)).length:=fun l=>by
   induction l with
   |nil=>rfl
   |cons x l ih=>
    rw[Uj,TH];cases ow owner x with
    |none=>simpa using ih
    |some v=>simpa using ih
  rw[this];exact hk)
 refine⟨j,h1,?_⟩;have HY:j<owner.size:=by omega
 rw[SO HY];cases q:owner[j] with
 |none=>rfl
 |some v=>refine absurd (Ub.mpr ⟨Tp.mpr (by omega),?_⟩) h2;unfold ow;rw[Tg,SO HY,q];rfl
theorem HB{mask:Nat}{owner:Array (Option Nat)}(hs:owner.size=mask+1){j k:Nat}(hj:j<=mask)(h0:owner[j]?=some none):(lay mask (owner.setIfInBounds j (some k))).Perm (k::lay mask owner):=by
 have:lay mask (owner.setIfInBounds j (some k))=(SH (mask+1)).filterMap (fun i=>if i=j then some k else ow owner i):=gC fun i hi=>by
  unfold ow;rw[Tg,Tg,Array.getElem?_setIfInBounds];by_cases e:i=j
  ·subst e;rw[if_pos rfl,if_pos rfl,if_pos (by omega)];rfl
  ·rw[if_neg fun z=>e z.symm,if_neg e]
 rw[this];exact Dz _ _ _ _ List.nodup_range (Tp.mpr (by omega)) (by unfold ow;rw[Tg,h0];rfl)
theorem uM{mask:Nat}(c:Cov mask):∀(hs:List Int) (owner:Array (Option Nat)) (k:Nat),owner.size=mask+1->(lay mask owner).Perm (SH k)->k+hs.length<=mask ->
  ∃ owner',hs.foldl (fun En h=>do
   let (owner,k) <- En
   let j <- layClean.free mask owner (turns mask) (bits h % (mask+1)) (bits h)
   pure (owner.setIfInBounds j (some k),k+1)) (some (owner,k))=some (owner',k+hs.length)/\(lay mask owner').Perm (SH (k+hs.length))/\owner'.size=mask+1
 |[],owner,k,h1,h2,_=>⟨owner,rfl,h2,h1⟩
 |h::hs,owner,k,h1,h2,h3=>by
  rw[S1]at h3;obtain⟨j0,a,b⟩:=DB h1 (by rw[h2.length_eq,S9];omega);have hi:bits h % (mask+1)<=mask:=VP (Wa _ (VU _));obtain⟨m,hm,e⟩:=Mu c hi (zv h) a;obtain⟨j,f1,f2,f3⟩:=zx h1 (turns mask) (bits h % (mask+1)) (bits h) hi ⟨m,by unfold turns;omega,by rw[e];exact b⟩;obtain⟨owner',q1,q2,q3⟩:=uM c hs (owner.setIfInBounds j (some k)) (k+1) (by rw[Array.size_setIfInBounds];exact h1)
   ((HB h1 f2 f3).trans (by rw[List.range_succ];exact(h2.cons k).trans (List.perm_append_singleton _ _).symm)) (by omega)
  refine⟨owner',?_,?_,q3⟩
  ·rw[V1,S1,show k+(hs.length+1)=k+1+hs.length by omega,<- q1]
   congr 1
   show (layClean.free mask owner (turns mask) (bits h % (mask+1)) (bits h)).bind _=_;rw[f1];rfl
  ·rw[S1,show k+(hs.length+1)=k+1+hs.length by omega];exact q2
theorem HC{mask finger moves:Nat}{led plain:Bool}{hashes:Array Int}(c:Cov mask)(hn:hashes.size<=mask):∃t order,laid mask finger moves led plain hashes=some (t,order)/\t.mask=mask/\t.led=led/\t.plain=plain/\t.dummies=#[] /\
  t.place.toList.Pairwise (· < ·)/\(∀j∈t.place.toList,j<=mask)/\t.place.size=hashes.size/\order.toList.Perm (SH hashes.size):=by
 obtain ⟨owner,q1,q2,q3⟩:=uM c hashes.toList (Array.replicate (mask+1) none) 0 (by simp) (by
  have:lay mask (Array.replicate (mask+1) none)=[]:=by unfold lay;rw[List.filterMap_eq_nil_iff];intro j hj;unfold ow;rw[Tg,Array.getElem?_replicate];split<;>rfl
  rw[this];exact .refl _) (by rw[SN];omega)
 rw[VS,SN]at q1 q2;have lc:layClean mask hashes=some owner:=by unfold layClean;rw[<- Array.foldl_toList,q1];rfl
 have e2:((SH (mask+1)).filterMap fun j=>(owner.getD j none).map (j,·)).map (·.2)=lay mask owner:=by unfold lay;rw[List.map_filterMap];refine gC fun j _=>?_;unfold ow;cases owner.getD j none<;>rfl
 have e1:((SH (mask+1)).filterMap fun j=>(owner.getD j none).map (j,·)).map (·.1)=(SH (mask+1)).filter fun j=>(owner.getD j none).isSome:=by rw[List.map_filterMap,<- List.filterMap_eq_filter];refine gC fun j _=>?_;unfold Option.guard;cases q:owner.getD j none<;>simp[q]
 unfold laid;rw[lc];refine⟨_,_,rfl,rfl,rfl,rfl,rfl,?_,fun j hj=>?_,?_,?_⟩
 ·show ((((SH (mask+1)).filterMap fun j=>(owner.getD j none).map (j,·)).map (·.1)).toArray).toList.Pairwise _;rw[e1];exact(List.pairwise_lt_range).sublist Ui
 ·have hj:j∈((((SH (mask+1)).filterMap fun j=>(owner.getD j none).map (j,·)).map (·.1)).toArray).toList:=hj;rw[e1]at hj;have:=Tp.mp (Ub.mp hj).1;omega
 ·show ((((SH (mask+1)).filterMap fun j=>(owner.getD j none).map (j,·)).map (·.1)).toArray).size=_;rw[SG,Ss,<- Ss (f:=(·.2)),e2,q2.length_eq,S9]
 ·show ((((SH (mask+1)).filterMap fun j=>(owner.getD j none).map (j,·)).map (·.2)).toArray).toList.Perm _;rw[e2];exact q2
theorem DF{t:SetTable}{es:Array (Int×Value)}{wanted:Nat}(c:Cov (sizeAbove wanted-1))(hn:es.size<=sizeAbove wanted-1)(pl:t.plain=true) :
  ∃es' t',relayAll t es wanted=(es',t',false)/\Good t' es'.size/\t'.mask=sizeAbove wanted-1/\t'.led=t.led/\es'.toList.Perm es.toList:=by
 obtain⟨t',order,q1,q2,q3,q4,q5,q6,q7,q8,q9⟩:=HC (finger:=t.finger) (moves:=t.movedTo (sizeAbove wanted-1)) (led:=t.led) (plain:=t.plain) (hashes:=es.map (·.1)) c (by rw[Array.size_map];exact hn);rw[Array.size_map]at q8 q9;have pe:(order.filterMap (es[·]?)).toList.Perm es.toList:=by
  rw[Array.toList_filterMap];refine(q9.filterMap _).trans (.of_eq ?_);have:∀l:List (Int×Value),(SH l.length).filterMap (fun i=>l[i]?)=l:=fun l=>by
   induction l with
   |nil=>rfl
   |cons x l ih=>
    rw[S1,List.range_succ_eq_map,TH];show x::_=_;rw[List.filterMap_map]
    congr 1
  have h2:=this es.toList
  simpa using h2
 have hz:(order.filterMap (es[·]?)).size=es.size:=by rw[<- SN,pe.length_eq,SN]
 have gd:Good t' es.size:=⟨q5,q4.trans pl,by rw[q2];exact c,q6,by rw[q2];exact q7,q8⟩
 refine⟨order.filterMap (es[·]?),t',?_,by rw[hz];exact gd,q2,q3,pe⟩;unfold relayAll SetTable.relaid;rw[q1];dsimp only;rw[hz,gd.fits (by rw[q2];exact hn)];have:coversAll order es.size=true:=by unfold coversAll;exact List.isPerm_iff.mpr q9
 rw[this];rfl
open PySem PySem.SetTable PySem.W
theorem br:Slot "set_iterator" "__next__" "set_iterator.__next__":=
 .of (owner := "set_iterator") (n := "__next__") (by rw[typeLookup_type,builtinLookup_eq_fast];kernel_rfl) (by decide +kernel) (by decide +kernel) (by decide +kernel)
  (by first | exact .inl (by decide +kernel) | exact .inr (by decide +kernel)) (by rw[isSubtype_type];kernel_rfl)
theorem eW:entryFor table "set_iterator.__next__" = some Builtin.«set_iterator.__next__»:=entryFor_of_tree (by kernel_rfl)
theorem lX:Manifest.owners.lookup (String.ofList ['r','o','t','a','r','e','t','i','_','t','e','s'].reverse)=some Manifest.sig_set_iterator:=by kernel_rfl
theorem fP(a:Value):argsOk "set_iterator.__next__" ⟨[a],[]⟩:=by unfold argsOk;rw[signature?_of (id := "set_iterator.__next__") (n:=['_','_','t','x','e','n','_','_']) (o:=['r','o','t','a','r','e','t','i','_','t','e','s']) (by kernel_rfl) lX];kernel_rfl
theorem fQ:Slot "set_iterator" "__iter__" "set_iterator.__iter__":=
 .of (owner := "set_iterator") (n := "__iter__") (by rw[typeLookup_type,builtinLookup_eq_fast];kernel_rfl) (by decide +kernel) (by decide +kernel) (by decide +kernel)
  (by first | exact .inl (by decide +kernel) | exact .inr (by decide +kernel)) (by rw[isSubtype_type];kernel_rfl)
theorem k7:entryFor table "set_iterator.__iter__" = some Builtin.«dict_keyiterator.__iter__»:=
 entryFor_alias (id' := "dict_keyiterator.__iter__") (by kernel_rfl) rfl (by decide +kernel) (by kernel_rfl)
theorem mC(a:Value):argsOk "set_iterator.__iter__" ⟨[a],[]⟩:=by unfold argsOk;rw[signature?_of (id := "set_iterator.__iter__") (n:=['_','_','r','e','t','i','_','_']) (o:=['r','o','t','a','r','e','t','i','_','t','e','s']) (by kernel_rfl) lX];kernel_rfl
theorem nV:entryFor table "set.__iter__" = some Builtin.«frozenset.__iter__»:=
 entryFor_alias (id' := "frozenset.__iter__") (by kernel_rfl) rfl (by decide +kernel) (by kernel_rfl)
theorem nW{α:Type}:∀(l:List α) (i:Nat) (h:i<l.length),(l[i]::l.eraseIdx i).Perm l
 |x::l,0,_=>.refl _
 |x::l,i+1,h=>by have ih:=nW l i (by simpa using h);exact(V5.swap _ _ _).trans (ih.cons x)
theorem zy(f:Nat->Nat){α:Type}:∀(n k:Nat) (left:List α) (out:Array α),left.length=n->(pickOrder.go f n k left out).toList.Perm (out.toList++left)
 |0,k,left,out,h=>by have:left=[]:=List.length_eq_zero_iff.mp h;subst this;unfold pickOrder.go;rw[Tu]
 |n+1,k,left,out,h=>by have HY:f k % left.length<left.length:=Wa _ (by omega);unfold pickOrder.go;rw[SK HY];dsimp only;refine(zy f n (k+1) _ _ (by rw[List.length_eraseIdx_of_lt HY];omega)).trans ?_;rw[Array.toList_push,Uy];refine V5.append_left _ ?_;exact nW left _ HY
theorem Bb(f:Nat->Nat){α:Type}(xs:Array α):(pickOrder f xs).toList.Perm xs.toList:=by
 unfold pickOrder;have:=zy f xs.size 0 xs.toList #[] (by rw[SN])
 simpa using this
def cV(h:Heap)(a:Addr)(es:Array (Int×Value))(ep:Nat)(t:SetTable):Prop:=∃o,h.get? a=some o/\o.ExactSet/\o.data=.set es ep t
theorem cV.typeIs{s:Shared}{a:Addr}{es ep t}(x:cV s.heap a es ep t):s.TypeIs (.ref a) "set" := let ⟨o,ho,he,_⟩:=x;⟨o,ho,he.1⟩
theorem cV.at{h h':Heap}{a:Addr}{es ep t}(x:cV h a es ep t)(e:∀o,h.get? a=some o->h'.get? a=some o):cV h' a es ep t:=let ⟨o,ho,r⟩:=x;⟨o,e _ ho,r⟩
noncomputable def slotAt(bt:Bool)(t:SetTable)(i:Nat):Nat:=if bt||i == 0 then 0 else t.place.getD (i-1) 0+1
def qw(h:Heap)(it a:Addr)(bt:Bool)(t:SetTable)(i n ep:Nat):Prop:=∃o,h.get? it=some o/\o.cls=.type "set_iterator" /\ o.data=.fields #[.int (slotAt bt t i:Nat) 0,.int i 0,.ref a,.int n 0,.int ep 0]
theorem qw.typeIs{s:Shared}{it a:Addr}{bt t i n ep}(x:qw s.heap it a bt t i n ep):s.TypeIs (.ref it) "set_iterator" := let ⟨o,ho,he,_⟩:=x;⟨o,ho,he⟩
theorem qw.at{h h':Heap}{it a:Addr}{bt t i n ep}(x:qw h it a bt t i n ep)(e:∀o,h.get? it=some o->h'.get? it=some o):qw h' it a bt t i n ep:=let ⟨o,ho,r⟩:=x;⟨o,e _ ho,r⟩
noncomputable def dc(w:World)(a:Addr)(es:Array (Int×Value))(ep:Nat):List Value:=
 ((if w.params.followText "set-order" then pickOrder (w.params.setOrder a ep) es else es).toList).map (·.2)
theorem qX(w:World)(a:Addr)(es:Array (Int×Value))(ep:Nat):(dc w a es ep).Perm (es.toList.map (·.2)):=by
 unfold dc;split
 ·exact(Bb _ es).map _
 ·exact .refl _
theorem gD(w:World)(a:Addr)(es:Array (Int×Value))(ep:Nat):(dc w a es ep).length=es.size:=by rw[(qX w a es ep).length_eq,Ss,SN]
theorem xW{t:SetTable}{n i:Nat}(g:Good t n)(hi:i<n):below t.place (slotAt false t i)=i:=by
 obtain⟨a,b,c⟩:=cN (slotAt false t i) g.ris;have mono:∀i k,i<k->∀v w,t.place[i]?=some v->t.place[k]?=some w->v<w:=fun i k hik v w e1 e2=>by obtain⟨q1,q2⟩:=T9.mp e1;obtain⟨q3,q4⟩:=T9.mp e2;have:=UD.mp g.ris i k (by simpa using q1) (by simpa using q3) hik;simp only[Vq]at this;omega
 have hz:=g.sz;cases i with
 |zero=>refine U6 fun z=>?_;have h0:t.place[0]?=some t.place[0]:=SO (by omega);have:=a 0 (by omega) _ h0;have e:slotAt false t 0=0:=rfl;rw[e]at this;omega
 |succ i=>
  have hp:t.place[i]?=some t.place[i]:=SO (by omega);have e:slotAt false t (i+1)=t.place[i]+1:=by show t.place.getD (i+1-1) 0+1=_;rw[VF,Tg,hp];rfl
  rw[e]at a b ⊢;have h1:i<below t.place (t.place[i]+1):=Nat.not_le.mp fun z=>by have:=b i z _ hp;omega
  have h2:below t.place (t.place[i]+1)<=i+1:=UC.mp fun z=>by have hq:t.place[i+1]?=some t.place[i+1]:=SO (by omega);have:=a (i+1) z _ hq;have:=mono i (i+1) (UX _) _ _ hp hq;omega
  omega
theorem Bc{t:SetTable}{n:Nat}(g:Good t n):n<=below t.place (slotAt false t n):=by
 obtain⟨a,b,c⟩:=cN (slotAt false t n) g.ris;have hz:=g.sz;cases n with
 |zero=>omega
 |succ i=>
  have hp:t.place[i]?=some t.place[i]:=SO (by omega);have e:slotAt false t (i+1)=t.place[i]+1:=by show t.place.getD (i+1-1) 0+1=_;rw[VF,Tg,hp];rfl
  rw[e]at a b ⊢;exact Nat.not_le.mp fun z=>by have:=b i z _ hp;omega
section
variable{prog:Program}{w:World}{A:Around}{E:Value->Shared->Prop}{s:Shared}{a it:Addr}{es:Array (Int×Value)}{ep i:Nat}{t:SetTable}
section
variable{Q:Bool->Shared->Prop}
theorem gE(x:cV s.heap a es ep t)(g:Good t es.size)(hm:es.size<=t.mask){Q:(Array (Int×Value)×Nat×SetTable)->Shared->Prop}(h:Q (es,ep,t) s):wpAny (model prog w) A (setState a) Q E s:=by obtain⟨o,ho,_,hd⟩:=x;exact wpAny_setState_of ho hd (g.fits hm) h
theorem k8(h:Q (w.params.followText "set-order") s):wpAny (model prog w) A setsByText Q E s:=by unfold setsByText;exact wpAny_bind (wpAny_askSetting (wpAny_pure h))
theorem uN(x:cV s.heap a es ep t)(g:Good t es.size)(hm:es.size<=t.mask)(h:Q false s):wpAny (model prog w) A (setDrawn a) Q E s:=by
 unfold setDrawn;refine wpAny_bind (gE x g hm ?_);refine wpAny_bind (k8 (wpAny_pure ?_));have e:(!(w.params.followText "set-order")&&(!t.plain&&decide (es.size>1)))=false:=by rw[g.pl];simp
 have e':Q (!(w.params.followText "set-order")&&(!t.plain&&decide (es.size>1))) s:=by rw[e];exact h
 exact e'
theorem nX(x:cV s.heap a es ep t)(g:Good t es.size)(hm:es.size<=t.mask)(hl:t.led=!w.params.followText "set-order"){Q:Option (Value×Nat)->Shared->Prop}
  (h:Q ((dc w a es ep)[i]?.map fun v=>(v,slotAt (w.params.followText "set-order") t (i+1))) s) (hi:i<=es.size):wpAny (model prog w) A (setNext a (slotAt (w.params.followText "set-order") t i) i ep) Q E s:=by
 unfold setNext;refine wpAny_bind (gE x g hm ?_);dsimp only;refine wpAny_bind (k8 ?_);cases bt:w.params.followText "set-order" with
 |true=>
  rw[bt]at h;rw[if_pos rfl];simp only[bne_self_eq_false,Tw,if_false];refine wpAny_bind (m:=setWalk a) ?_;unfold setWalk;refine wpAny_bind (gE x g hm ?_);dsimp only;refine wpAny_bind (k8 ?_);rw[bt,if_pos rfl];refine wpAny_bind (wpAny_askSetting (wpAny_pure (wpAny_pure ?_)));unfold dc at h;rw[bt,if_pos rfl,SS,Option.map_map]at h;have e:slotAt true t i=0/\slotAt true t (i+1)=0:=⟨rfl,rfl⟩
  rw[e.1];rw[e.2]at h;rw[TZ]at h;exact h
 |false=>
  rw[bt]at h hl;rw[if_neg S3];have dr:(!t.plain&&decide (es.size>1))=false:=by rw[g.pl];rfl
  show wpAny _ _ (if (!t.plain&&decide (es.size>1))=true then _ else _) _ _ _;rw[if_neg (by rw[dr];exact S3)];show wpAny _ _ ((if (!t.led&&!es.isEmpty)=true then _ else pure ()) >>= _) _ _ _;rw[hl];simp only[Bool.not_false,VL,Bool.false_and,Tw,if_false];refine wpAny_bind (wpAny_pure (wpAny_pure ?_));unfold dc at h;rw[bt]at h;simp only[Tw,if_false]at h;rw[SS]at h;rcases Nat.lt_or_ge i es.size with HY | hge
  ·rw[xW g HY,SO HY,SO (by rw[g.sz];exact HY)];rw[TZ,SO HY]at h;have e:slotAt false t (i+1)=t.place[i]'(by rw[g.sz];exact HY)+1:=by
    show t.place.getD (i+1-1) 0+1=_;rw[VF,Tg,SO (by rw[g.sz];exact HY)];rfl
   rw[e]at h;exact h
  ·have:i=es.size:=by omega
   subst this;rw[Vi (Bc g)];rw[TZ,Vi (SA _)]at h;exact h
end
end
section
variable{prog:Program}{w:World}{A:Around}{E:Value->Shared->Prop}{s:Shared}{a it:Addr}{es:Array (Int×Value)}{ep i:Nat}{t:SetTable}
theorem xX(x:cV s.heap a es ep t)(g:Good t es.size)(hm:es.size<=t.mask){Q:Value->Shared->Prop}
  (hQ:Q (.ref s.heap.objs.size) { s with heap:=s.heap.push { cls:=.type "set_iterator",data:=.fields #[.int 0 0,.int 0 0,.ref a,.int es.size 0,.int ep 0] } }):wpAny (model prog w) A (pyIter (.ref a)) Q E s:=by
 obtain⟨o,ho,hex,hd⟩:=id x;refine wpAny_pyIter_slot x.typeIs F.slot_set_iter (wpAny_call_entry F.slot_set_iter x.typeIs nV ?_ (F.args_set_iter_1 _));unfold Builtin.«frozenset.__iter__» Builtin.Frozenset.slot0 slotArgs;simp only[VW,VL,Tw,↓reduceIte,bind_assoc,UM,bne_self_eq_false];unfold Builtin.Frozenset.addrOf Builtin.Frozenset.sizeOf;refine wpAny_bind (wpAny_pure ?_)
 try dsimp only
 refine wpAny_bind (wpAny_pure ?_);refine wpAny_bind (wpAny_bind (wpAny_setEntries_of ho hd (g.fits hm) (wpAny_pure ?_)));refine wpAny_bind (uN x g hm ?_);simp only[Tw,if_false];refine wpAny_bind (wpAny_pure ?_);refine wpAny_bind (wpAny_setEpoch_of ho hd (g.fits hm) ?_);refine wpAny_bind (m:=newFields _ _) ?_;unfold newFields;refine wpAny_newObj_type (wpAny_pure ⟨_,rfl,"set_iterator",_,⟨_,S2 _ rfl,rfl⟩,br.lookup,?_⟩)
 simpa [rawInt] using hQ
theorem next_item(Mu:qw s.heap it a (w.params.followText "set-order") t i es.size ep)(x:cV s.heap a es ep t)(g:Good t es.size)(hm:es.size<=t.mask)(hl:t.led=!w.params.followText "set-order"){v:Value}(hv:(dc w a es ep)[i]?=some v){Q:Option Value->Shared->Prop}
  (hQ:∀h',qw h' it a (w.params.followText "set-order") t (i+1) es.size ep->UT it s.heap h'->Q (some v) { s with heap:=h' }):wpAny (model prog w) A (pyNext (.ref it)) Q E s:=by
 obtain⟨o,ho,hc,hd⟩:=id Mu;obtain⟨oa,hoa,RD,hda⟩:=id x;have hi:i<es.size:=by rw[<- gD w a es ep];exact(Su.mp hv).1
 unfold pyNext;refine wpAny_bind (wpAny_attempt (wpAny_callSpecial?_slot (name:=U8 "__next__") Mu.typeIs br
  (wpAny_call_entry br Mu.typeIs eW ?_ (fP _))))
 unfold Builtin.«set_iterator.__next__» slotArgs;simp only[VW,VL,Tw,↓reduceIte,bind_assoc,UM,bne_self_eq_false];refine wpAny_bind (wpAny_pure ?_)
 try dsimp only
 refine wpAny_bind (wpAny_fieldsOf ho hd ?_)
 try dsimp only
 refine wpAny_bind (wpAny_setEntries_of hoa hda (g.fits hm) ?_);simp only[bne_self_eq_false,Tw,if_false];simp only[Uz];refine wpAny_bind (nX x g hm hl ?_ (US hi));rw[hv];dsimp only[Option.map_some];refine wpAny_bind (wpAny_setField ho hd (by simp) ?_);have h1:=Uu (Obj.mapFields (·.setIfInBounds 0 (rawInt (slotAt (w.params.followText "set-order") t (i+1):Nat)))) ho (Obj.isFreed_of_fields (Vc hd _));have d1:=Vc hd (·.setIfInBounds 0 (rawInt (slotAt (w.params.followText "set-order") t (i+1):Nat)));refine wpAny_bind (wpAny_setField h1 d1 (by simp) ?_);refine wpAny_pure ⟨_,rfl,wpAny_pure (hQ _ ⟨_,Uu _ h1 (Obj.isFreed_of_fields (Vc d1 _)),?_,?_⟩ ((UK ..).trans (UK ..)))⟩
 ·exact(Obj.cls_mapFields ..).trans ((Obj.cls_mapFields ..).trans hc)
 ·rw[Vc d1];simp[rawInt]
theorem next_end(hh:A.handled=none)(Mu:qw s.heap it a (w.params.followText "set-order") t es.size es.size ep)(x:cV s.heap a es ep t)(g:Good t es.size)(hm:es.size<=t.mask)(hl:t.led=!w.params.followText "set-order"){Q:Option Value->Shared->Prop}
  (hQ:∀h',Heap.ExtBut it s.heap h'->Q none { s with heap:=h' }):wpAny (model prog w) A (pyNext (.ref it)) Q E s:=by
 obtain⟨o,ho,hc,hd⟩:=id Mu;obtain⟨oa,hoa,RD,hda⟩:=id x;unfold pyNext;refine wpAny_bind (wpAny_attempt (wpAny_callSpecial?_slot (name:=U8 "__next__") Mu.typeIs br
  (wpAny_call_entry br Mu.typeIs eW ?_ (fP _))))
 unfold Builtin.«set_iterator.__next__» slotArgs;simp only[VW,VL,Tw,↓reduceIte,bind_assoc,UM,bne_self_eq_false];refine wpAny_bind (wpAny_pure ?_)
 try dsimp only
 refine wpAny_bind (wpAny_fieldsOf ho hd ?_)
 try dsimp only
 refine wpAny_bind (wpAny_setEntries_of hoa hda (g.fits hm) ?_);simp only[bne_self_eq_false,Tw,if_false];simp only[Uz];refine wpAny_bind (nX x g hm hl ?_ (SA _));rw[Tj (by rw[gD];exact SA _)];dsimp only[Option.map_none];refine wpAny_bind (wpAny_setField ho hd (by simp) (wpAny_bind ?_));unfold newExc newTuple;refine wpAny_bind (wpAny_newObj_type (wpAny_bind (m:=firstArgMember _ _) (wpAny_of_eq (a:=.none) rfl (wpAny_newObj_type ?_ (by size_fits)))) (by size_fits));unfold raiseNew;refine wpAny_bind (wpAny_handled ?_);have hx:A.in1.handled=none:=hh;rw[hx];refine wpAny_bind (wpAny_pure (wpAny_throw (wpAny_bind ?_)));refine wpAny_isInstance (b:=true) (T := "StopIteration") ⟨_,S2 _ rfl,rfl⟩ isSubtype_stop (wpAny_pure ?_);exact hQ _ (((UK ..).extBut.push _).push _)
theorem sO{bt:Bool}{n:Nat}(Mu:qw s.heap it a bt t i n ep){Q:Value->Shared->Prop}(h:Q (.ref it) s):wpAny (model prog w) A (pyIter (.ref it)) Q E s:=by refine wpAny_pyIter_slot Mu.typeIs fQ (wpAny_call_entry fQ Mu.typeIs k7 ?_ (mC _));show wpAny _ _ (ret (.ref it)) _ _ s;exact wpAny_pure ⟨_,rfl,"set_iterator",_,Mu.typeIs,br.lookup,h⟩
theorem Bd(hh:A.handled=none)(I a:Addr)(PR:a≠I)(g:Good t es.size)(hm:es.size<=t.mask)(hl:t.led=!w.params.followText "set-order") :
  Walks prog w A I [I,a] [I] es.size (fun i v=>(dc w a es ep)[i]?=some v) (fun i h=>qw h I a (w.params.followText "set-order") t i es.size ep/\cV h a es ep t) where
 sub:=fun b hb=>by simp at hb;simp[hb]
 frame:=fun _ _ _ st hk=>⟨st.1.at fun o e=>hk I (by simp) o e,st.2.at fun o e=>hk a (by simp) o e⟩
 item:=fun i s Q E hi st hQ=>by
  obtain⟨v,hv⟩:∃v,(dc w a es ep)[i]?=some v:=⟨(dc w a es ep)[i]'(by rw[gD];exact hi),by simp[gD,hi]⟩
  refine next_item st.1 st.2 g hm hl hv fun h' RG hs'=>?_;exact hQ v h' s.toks hv ⟨RG,st.2.at fun o e=>hs'.extBut a o PR e⟩ fun b o hb e=>hs'.extBut b o (fun h=>hb (by simp[h])) e
 done:=fun s Q E st hQ=>next_end hh st.1 st.2 g hm hl fun h' he'=>hQ h' s.toks fun b o hb e=>he' b o (fun h=>hb (by simp[h])) e
 self:=fun _ _ _ _ st hQ=>sO st.1 hQ
theorem DG{r:Addr}{Q:Bool->Shared->Prop}(hT:s.TypeIs (.ref r) "set")(h:Q false s):wpAny (model prog w) A (Ur (.ref r)) Q E s:=by
 unfold Ur;refine wpAny_bind (wpAny_specialOf hT PySem.F.slot_set_len.lookup ?_)
 generalize hid:("set.__len__" : String)=id0
 wp_delta
 rw[show splitId id0=some ("set","__len__") from by subst hid;decide +kernel];subst hid;refine wpAny_bind (wpAny_isInstance (T := "set") (b:=true) hT (by rw[isSubtype_type];kernel_rfl) ?_);refine wpAny_ite_split (fun PM=>absurd PM (by decide)) (fun _=>?_);refine wpAny_ite_split (fun _=>?_) (fun PM=>absurd (by decide +kernel) PM);refine wpAny_bind (wpAny_typeOf hT ?_);exact wpAny_pure h
theorem HD(g:Good t es.size)(hm:es.size<=t.mask)(hl:t.led=!w.params.followText "set-order"):KdlSrc prog w "set" a a es.size (fun i v=>(dc w a es ep)[i]?=some v) (fun h=>cV h a es ep t) where
 type:=fun _ x=>x.typeIs
 there:=fun _ x=>let ⟨_,ho,_⟩:=x;⟨SI ho,SI ho⟩
 keep:=fun _ _ x hk=>x.at fun o e=>hk a (.inl rfl) o e
 notList:=by decide
 notTuple:=by decide
 hint:=fun _ _ _ _ x hq=>DG x.typeIs hq
 iter:=fun _ s hh x=>⟨_,_,(fun _ _ hq=>xX x g hm hq),Bd hh _ a (let ⟨_,ho,_⟩:=x;S7 (SI ho)) g hm hl,
  ⟨⟨_,S2 _ rfl,rfl,by simp[slotAt]⟩,x.at fun o e=>Sz _ e⟩⟩
end
open PySem PySem.SetTable PySem.W PyProof.Rows
noncomputable def ky:Value->Int
 |.int k _=>k
 |_=>0
def Small(t:SetTable)(n:Nat):Prop:=(t.mask=7/\n<=4)\/(t.mask=31/\n<=18)\/(t.mask=127/\n<=76)
theorem Small.le{t:SetTable}{n:Nat}(h:Small t n):n<=t.mask:=by rcases h with⟨a,b⟩ | ⟨a,b⟩ | ⟨a,b⟩<;>omega
def IsE(e:Int×Value):Prop:=e.1=hashInt (ky e.2)/\∃tk,e.2=.int (ky e.2) tk
def nY(w:World)(h:Heap)(a:Addr)(ns:List Int):Prop:=∃es ep t,cV h a es ep t/\Good t es.size/\Small t es.size/\t.led=!w.params.followText "set-order" /\ (∀e∈es.toList,IsE e)/\(es.toList.map fun e=>ky e.2).Perm ns
theorem nY.at{w:World}{h h':Heap}{a:Addr}{ns:List Int}(x:nY w h a ns)(e:∀o,h.get? a=some o->h'.get? a=some o):nY w h' a ns:=
 let ⟨es,ep,t,x1,r⟩:=x
 ⟨es,ep,t,x1.at e,r⟩
theorem uO{h:Heap}{a:Addr}{es es':Array (Int×Value)}{ep:Nat}{t t':SetTable}(x:cV h a es ep t):cV (h.update a (Wd es' t')) a es' (ep+1) t':=by obtain⟨o,ho,hex,hd⟩:=x;have:=Uu (Wd es' t') ho (by rw[putSet_of es' t' hd];rfl);rw[putSet_of es' t' hd]at this;exact⟨_,this,hex,rfl⟩
section
variable{prog:Program}{w:World}{A:Around}{E:Value->Shared->Prop}{s:Shared}{a:Addr}{ns:List Int}{k:Int}{tk:Tok}
theorem DH{es:Array (Int×Value)}(h:∀e∈es.toList,IsE e):ElemsOf (intKind prog w) es.toList:=fun e he=>by
 obtain⟨h1,t,h2⟩:=h e he;refine⟨⟨ky e.2,?_,h1⟩,?_⟩
 ·rw[h2];exact intKind_is prog w _ _
 ·rw[h2];rfl
theorem sP{Q:Bool->Shared->Prop}(x:nY w s.heap a ns)(hn:ns.length+1<=76)(h:∀b h',UT a s.heap h'->nY w h' a (step_dedup ns k)->Q b { s with heap:=h' }) :
  wpAny (model prog w) A (setAddHashed a (.int k tk) (hashInt k)) Q E s:=by
 obtain⟨es,ep,t,x1,g,sm,hl,he,hp⟩:=x;obtain⟨o,ho,hex,hd⟩:=id x1;have hf:=g.fits sm.le;have hel:=DH (prog:=prog) (w:=w) he;have Fd:es.size=ns.length:=by rw[<- hp.length_eq,Ss,SN]
 have hb:es.size<scanBound:=by unfold scanBound;omega
 have hkey:(intKind prog w).is k (.int k tk)=true:=intKind_is prog w k tk;have hsc:(Value.int k tk).scannable=true:=rfl;unfold setAddHashed setAddHashedIn;refine wpAny_holding (wpAny_bind (wpAny_setState_of ho hd hf ?_));dsimp only;rw[byScan_of hsc hb hel];simp only[↓reduceIte];unfold setAddByScan;refine wpAny_bind ?_;refine wpAny_bind (wpAny_rule ?_);refine wpAny_bind (wpAny_setScan_of (knd:=intKind prog w) hkey ho hd hf hel ?_);have mem:∀e∈es.toList,(intKind prog w).is k e.2=true↔ky e.2=k:=fun e hm=>by
  obtain⟨_,t',h2⟩:=he e hm;constructor
  ·intro q;have q2:(intKind prog w).is (ky e.2) e.2=true:=by rw[h2];exact intKind_is prog w _ _
   exact((intKind prog w).inj e.2 _ _ q2 q)
  ·intro q;rw[h2,q];exact intKind_is prog w _ _
 cases hr:List.findIdx? (fun e=>(intKind prog w).is k e.2) es.toList with
 |some j=>
  dsimp only;obtain⟨hj,hpj,_⟩:=List.findIdx?_eq_some_iff_getElem.mp hr;have hin:k∈ns:=hp.mem_iff.mp (SW.mpr ⟨_,UY hj,(mem _ (UY hj)).mp hpj⟩);refine wpAny_pure (wpAny_pure ?_);have e:s={ s with heap:=s.heap }:=by cases s;rfl
  have hd2:step_dedup ns k=ns:=by unfold step_dedup;rw[if_pos (Vj.mpr ⟨k,hin,by simp⟩)]
  have:=h false s.heap (UT.refl a s.heap) (by rw[hd2];exact⟨es,ep,t,x1,g,sm,hl,he,hp⟩);rw[e];exact this
 |none=>
  dsimp only;have hout:k∉ns:=fun z=>by obtain⟨e,hm,q⟩:=SW.mp (hp.mem_iff.mpr z);have:=List.findIdx?_eq_none_iff.mp hr e hm;rw[(mem e hm).mpr q]at this;cases this
  have hd2:step_dedup ns k=ns++[k]:=by
   unfold step_dedup;rw [if_neg fun z=>by
    obtain⟨y,hy,q⟩:=Vj.mp z;have:y=k:=by simpa using q
    exact hout (this▸hy)]
  rw[hd2]at h;obtain⟨es1,t1,eL,g1,m1,l1,p1⟩:=Ba g (by rcases sm with⟨q1,q2⟩ | ⟨q1,q2⟩ | ⟨q1,q2⟩<;>omega) (hashInt k) (Value.int k tk);rw[eL];dsimp only;have hz1:es1.size=es.size+1:=by rw[<- SN,p1.length_eq,SJ,SN];rfl
  have he1:∀e∈es1.toList,IsE e:=fun e hm=>by
   rcases S4.mp (p1.mem_iff.mp hm) with q | q
   ·exact he e q
   ·rw[SY.mp q];exact⟨rfl,tk,rfl⟩
  have hp1:(es1.toList.map fun e=>ky e.2).Perm (ns++[k]):=by refine(p1.map _).trans ?_;rw[S0];exact hp.append (.refl _)
  refine wpAny_bind (wpAny_pure (a:=()) ?_);rw[if_pos g1.pl];refine wpAny_bind ?_;rw[hashByValue_scannable 8 hsc];refine wpAny_pure ?_;have pk:plainKind (Value.int k tk)=true:=rfl;simp only[pk,↓reduceIte,Bool.not_false,Bool.true_and];refine wpAny_bind (wpAny_storeSet_of ho hd ?_ (fits_of_scanBound (by unfold scanBound;omega)));have x2:cV (s.heap.update a (Wd es1 t1)) a es1 (ep+1) t1:=uO x1;have sb:=UK s.heap a (Wd es1 t1);have tf:t1.tooFull=decide ((es.size+1)*5≥t.mask*3):=by unfold SetTable.tooFull SetTable.fill;rw[g1.dm,g1.sz,hz1,m1];rfl
  by_cases Jk:(es.size+1)*5≥t.mask*3
  ·rw[tf,decide_eq_true Jk];obtain⟨M,sa,cv,lM,sm2⟩:∃M,SetTable.sizeAbove (SetTable.grown es1.size)-1=M/\Cov M/\es1.size<=M/\((M=31/\es1.size<=18)\/(M=127/\es1.size<=76)):=by
    rcases sm with⟨q1,q2⟩ | ⟨q1,q2⟩ | ⟨q1,q2⟩
    ·have:es1.size=5:=by omega
     exact⟨31,by rw[this];decide +kernel,Pb,by omega,.inl ⟨rfl,by omega⟩⟩
    ·have:es1.size=19:=by omega
     exact⟨127,by rw[this];decide +kernel,L5,by omega,.inr ⟨rfl,by omega⟩⟩
    ·omega
   obtain⟨es2,t2,eR,g2,m2,l2,p2⟩:=DF (t:=t1) (es:=es1) (wanted:=SetTable.grown es1.size) (by rw[sa];exact cv) (by rw[sa];omega) g1.pl;rw[eR];have hz2:es2.size=es1.size:=by rw[<- SN,p2.length_eq,SN]
   show wpAny _ _ (_ >>= _) _ _ _;refine wpAny_bind (wpAny_pure (a:=()) ?_);obtain⟨o2,ho2,hex2,RH⟩:=id x2;refine wpAny_bind (wpAny_storeSet_of ho2 RH ?_ (fits_of_scanBound (by show es2.size<4096;omega)));refine wpAny_pure (wpAny_pure (h true _ (sb.trans (UK _ a _)) ⟨es2,_,t2,uO x2,g2,.inr (by rw[m2,sa,hz2];exact sm2),by rw[l2,l1,hl],fun e hm=>he1 e (p2.mem_iff.mp hm),(p2.map _).trans hp1⟩))
  ·rw[tf,decide_eq_false Jk];refine wpAny_pure (wpAny_pure (h true _ sb ⟨es1,_,t1,x2,g1,?_,by rw[l1,hl],he1,hp1⟩));unfold Small;rw[m1];rcases sm with⟨q1,q2⟩ | ⟨q1,q2⟩ | ⟨q1,q2⟩
   ·exact .inl ⟨q1,by omega⟩
   ·exact .inr (.inl ⟨q1,by omega⟩)
   ·exact .inr (.inr ⟨q1,by omega⟩)
end
noncomputable abbrev nZ(led:Bool):Obj:={ cls:=.type "set",dict:=none,data:=.set #[] 0 (.fresh 0 0 led) }
noncomputable def bt(w:World):Bool:=w.params.followText "set-order"
theorem zz(u:String)(hu:u = "set" \/ u = "frozenset"):isSubtype (.type "tuple") (.type u)=pure false:=by rcases hu with h | h<;>(subst h;rw[isSubtype_type];kernel_rfl)
theorem xY(led:Bool):Good (.fresh 0 0 led) 0:=⟨rfl,rfl,RC,.nil,fun j h=>(by cases h),rfl⟩
theorem DJ{prog:Program}{w:World}{A:Around}{R:Result->Shared->Prop}{I S:Addr}{fp wr:List Addr}{G:Array GenState->Array GenState->Prop}{n:Nat}{P:Nat->Value->Prop}{St:Nat->Shared->Prop}{J:Nat->Heap->Prop}(W:WalksS prog w A.in1 I fp wr G n P St)(off:S∉fp)
  (jk:∀i h h',J i h->(∀b o,b∉wr->h.get? b=some o->h'.get? b=some o)->J i h')
  (ja:∀i v (u:Shared) (E:Value->Shared->Prop) (K:Bool->Shared->Prop),i<n->P i v->J i u.heap->(∀c h' tk,u.toks<=tk->UT S u.heap h'->J (i+1) h'->K c { u with heap:=h',toks:=tk })->wpAny (model prog w) A.in1 (setAdd S v) K E u)
  (i:Nat) (s:Shared) (hi:i<=n) (st:St i s) (hJ:J i s.heap) (PF:∀s',Moved (S::wr) G s s'->J n s'.heap->R (.ok (.ret .none)) s'):codeAny (model prog w) A (.builtin "set.update.loop" ⟨[.ref S,.ref I],[]⟩) R s:=by
 have nw:S∉wr:=fun z=>off (W.sub _ z);have up:∀{x y:Shared},Moved wr G x y->Moved (S::wr) G x y:=fun m=>m.mono fun _=>Sy _
 generalize hd:n-i=d
 induction d generalizing i s with
 |zero=>cases (show i=n by omega);refine codeAny_builtin F.entry_set_update_loop (Around.under_plainId Vf _▸?_);exact wpAny_bind (W.done s _ _ st fun s' m=>wpAny_pure (PF s' (up m) (jk _ _ _ hJ fun b o hb e=>m.heap b o hb e)))
 |succ d ih=>
  have lt:i<n:=by omega
  refine codeAny_builtin F.entry_set_update_loop (Around.under_plainId Vf _▸?_);refine wpAny_bind (W.item i s _ _ lt st fun v u hv st1 m=>?_);refine wpAny_bind (wpAny_holding (ja i v u _ _ lt hv (jk _ _ _ hJ fun b o hb e=>m.heap b o hb e) fun c h' tk ht sb hJ'=>wpAny_pure ⟨plainId_quiet Vf _,?_⟩));refine ih (i+1) _ lt (W.frame _ u _ _ st1 ht fun b hb o e=>(sb.2 b fun z=>off (z▸hb)).trans e) hJ' (fun s' m'=>PF s' (Moved.trans W.gtrans ((up m).then_heap ht fun b o hb e=>?_) m')) (by omega);exact(sb.2 b fun z=>hb (z▸Sw)).trans e
section
variable{prog:Program}{w:World}{A:Around}{E:Value->Shared->Prop}{s:Shared}
theorem DK(x:Value){K:Value->Shared->Prop}(h:K (.ref s.heap.objs.size) { s with heap:=s.heap.push (nZ (!bt w)) }):codeAny (model prog w) A (.call (.builtin "set.__new__") ⟨[.type "set",x],[]⟩) (wants K E) s:=by
 refine codeAny_call_builtin PySem.F.plain_set_new PySem.F.entry_set_new (wpAny_of_eq (PySem.F.newCall_set_1 x) ?_);have sub:=sub_set_self;cases s;unfold Builtin.«set.__new__» Builtin.Frozenset.newClass
 wp_walk
 exact wpAny_askSetting (wpAny_pure (wpAny_bind (wpAny_alloc (wpAny_pure (wpAny_pure h)))))
set_option maxHeartbeats 3200000 in
theorem Be{x:Value}{K:Value->Shared->Prop} (body:∀led,led=(!bt w)->wpAny (model prog w) A.in1.in1 (Builtin.«set.__init__» ⟨[.ref s.heap.objs.size,x],[]⟩)
   (fun f u=>∃h' tk,f=.done (.ret .none)/\u={ s with heap:=h',toks:=tk }/\K (.ref s.heap.objs.size) { s with heap:=h',toks:=tk }) E { s with heap:=s.heap.push (nZ led) }):wpAny (model prog w) A (call (.type "set") [x]) K E s:=by
 have ft:=PySem.F.called_set;obtain⟨c,tl,e1⟩:=ft.mro;have e2:=ft.made;have e3:=ft.sub;have e4:=ft.notType;have e5:=ft.canCreate;have e6:=PySem.F.typeCall_set_1 x;refine wpAny_call (codeAny_of_tree (wpAny_pure ⟨Code.quiet_builtin _ (by decide +kernel),codeAny_builtin PySem.F.entry_type_call (Around.under_plain (weight_type_call_type "set" [x] []) rfl▸?_)⟩))
 repeat (any_goals (first | assumption | wp_step))
 generalize L6:(!bt w)=led at body
 refine codeAny_mono (DK x (E:=E) (K:=fun y u=>y=.ref s.heap.objs.size/\u={ s with heap:=s.heap.push (nZ led) }) ⟨rfl,by rw[L6]⟩) fun q u hq=>?_
 match q,hq with
 |.error _,hq=>exact hq
 |.ok (.ret y),⟨h1,h2⟩=>
  subst h1 h2;have ty:Shared.TypeIs { s with heap:=s.heap.push (nZ led) } (.ref s.heap.objs.size) "set" := ⟨_,S2 _ rfl,rfl⟩
  have e7:=ft.init.lookup;have e8:=ft.init.bind (.ref s.heap.objs.size)
  repeat (any_goals (first | assumption | wp_step))
  refine codeAny_mono (codeAny_call_builtin (R:=wants (fun z u=>z=.none/\∃h' tk,u={ s with heap:=h',toks:=tk }/\K (.ref s.heap.objs.size) { s with heap:=h',toks:=tk }) E) ft.init.plain PySem.F.entry_set_init (check_set_init_1 ty ?_)) fun q' u' hq'=>?_
  ·refine wpAny_mono (body led rfl) (fun f u hf=>?_) fun _ _ z=>z;obtain⟨h',tk,rfl,rfl,hk⟩:=hf;exact⟨rfl,h',tk,rfl,hk⟩
  ·match q',hq' with
   |.error _,hq'=>exact hq'
   |.ok (.ret z),⟨h1,h',tk,h2,hk⟩=>
    subst h1 h2
    repeat (any_goals (first | assumption | wp_step))
theorem n5{l:Addr}{items:Array Value}{ns:List Int}{K:Value->Shared->Prop}(hh:A.handled=none)(hl:s.heap.IsTuple l items)(hi:IntsAre items.toList ns)(hb:∀i,i<items.size->(firstMet (fun i=>ns.getD i 0) i).length+1<=18)
  (h:∀(h':Heap) (tk:Nat),nY w h' s.heap.objs.size (firstMet (fun i=>ns.getD i 0) items.size)->(∀b o,b<s.heap.objs.size->s.heap.get? b=some o->h'.get? b=some o)->K (.ref s.heap.objs.size) { s with heap:=h',toks:=tk }):wpAny (model prog w) A (call (.type "set") [.ref l]) K E s:=by
 refine Be fun led L6=>?_;obtain⟨o,ho,hc,k,hd⟩:=id hl;have ls:l<s.heap.objs.size:=SI ho;have t1:(s.heap.push (nZ led)).IsTuple l items:=⟨o,Sz _ ho,hc,k,hd⟩
 have g0:(s.heap.push (nZ led)).get? s.heap.objs.size=some (nZ led):=S2 _ rfl;have ty:Shared.TypeIs { s with heap:=s.heap.push (nZ led) } (.ref l) "tuple" := ⟨_,Sz _ ho,hc⟩
 have n1:=zz "set" (.inl rfl);have n2:=zz "frozenset" (.inr rfl);have n3:(UL "tuple" == UL "dict")=false:=by decide
 obtain⟨oc,od,odt,os⟩:=o;simp only at hc hd;subst hc hd;have ho1:(s.heap.push (nZ led)).get? l=some { cls:=.type "tuple",dict:=od,data:=.seq items k,slots:=os }:=Sz _ ho;unfold Builtin.«set.__init__» noKeywords Builtin.Frozenset.updateFrom
 generalize hP:pyIter=PI
 wp_walk
 subst hP;refine wpAny_pyIter_tuple t1 (wpAny_bind (wpAny_runValue ?_));have ne:l≠(s.heap.push (nZ led)).objs.size:=by rw[UE];exact S7 (UR ls)
 have off:s.heap.objs.size∉[(s.heap.push (nZ led)).objs.size,l]:=fun z=>by rw[UE]at z;simp only[SD,TV,or_false]at z;exact z.elim (S7 (UX _)) (Uq ls)
 refine DJ (J:=fun i h=>nY w h s.heap.objs.size (firstMet (fun i=>ns.getD i 0) i)) ((Walks.tuple (A:=A.in1.in1.in1) (by simp[hh]) _ l ne items).toS) off (fun i a b x e=>x.at fun o h=>e _ o (fun z=>off (SD.mpr (.inl (SY.mp z)))) h) (fun i v u E' K' hi' hv hJ hK=>?_) 0 _ (S6 _)
  ⟨⟨_,S2 _ rfl,rfl,rfl⟩,⟨_,Sz _ ho1,rfl,k,rfl⟩⟩ ⟨#[],0,.fresh 0 0 led,⟨_,Sz _ g0,⟨rfl,rfl,rfl⟩,rfl⟩,xY led,.inl ⟨rfl,S6 _⟩,L6,fun e he=>(by cases he),.refl _⟩ fun s' m hJ=>?_
 ·obtain⟨t,rfl⟩:=IntsAre.int_at hi i v (by rw[TZ];exact hv);unfold setAdd;exact wpAny_holding (wpAny_bind ((intKind prog w).pyHash (intKind_is _ _ _ _) (sP (s:={ u with toks:=u.toks+1 }) hJ (S8 (hb i hi') (by decide)) fun c h' sb hJ'=>hK c h' _ (Vy _) sb (by rw[firstMet_succ];exact hJ'))))
 ·obtain⟨h',g',d',tk',os'⟩:=s';obtain rfl:g'=s.gens:=m.gens;obtain rfl:d'=s.drawn:=m.drawn;obtain rfl:os'=s.os:=m.os;refine wpAny_pure (wpAny_pure ⟨h',tk',rfl,rfl,h h' tk' hJ fun b o lt e=>m.heap b o (fun z=>?_) (Sz _ (Sz _ e))⟩);rw[UE]at z;simp only[SD,TV,or_false]at z;exact z.elim (S7 lt) (S7 (UR lt))
end
end Sx
namespace Dm
noncomputable def eX:Dat->Option RV
 | .tup ds=>(match lU ds with
  |some ns=>if (dedup ns).length<=17 then some (.new (.lst ((cU (fun a b=>decide (a<b)) (dedup ns)).map .int))) else none
  |none=>none)
 |_=>none
end Dm
namespace Br
open PySem PySem.Spec PyProof.Rows L2
def Jl(w:World):List V->Hp->VK->Prop:=fun xs H Q=>∃(q:Addr) (ns:List Int),xs=[.ref q]/\H q=some (.tup (ns.map V.int))/\(Dm.dedup ns).length<=17 /\
 ∀l,H l=none->Q (.ref l) (upd H l (.ext fun h=>Sx.nY w h l (Dm.dedup ns)))
def DL(w:World):List V->Hp->VK->Prop:=fun xs H Q=>∃(q:Addr) (ns:List Int),xs=[.ref q]/\H q=some (.ext fun h=>Sx.nY w h q ns)/\ns.length<=63 /\
 ∀(ms:List Int) (l:Addr),ms.Perm ns->ms.Pairwise (·<=·)->H l=none->Q (.ref l) (upd H l (.lst (ms.map V.int)))
theorem ia(val:Nat->Int):∀(k i:Nat),(firstMet val i).length<=(firstMet val (i+k)).length
 |0,i=>SA _
 |k+1,i=>by refine S8 (ia val k i) ?_;rw[<- Nat.add_assoc,firstMet_succ,step_length];split<;>omega
theorem Bf{X:Cx}(hc:X.calm=true):cg X (.type "set") (Jl X.w):=by
 intro uW s σ H xs us Q I r h;obtain⟨q,ns,rfl,hq,hb,k⟩:=h;obtain⟨u,rfl,rx⟩:=vals1 r;cases rx;obtain⟨z,its,rv,pt⟩:=(show aT X.prog X.w H s.heap q (.tup (ns.map V.int)) from I.hok q _ hq)
 have hl:=rv.length;rw[Ss]at hl;have hz:its.toArray.size=ns.length:=by rw[SG,<- hl]
 refine Sx.n5 (ns:=ns) (I.ok.hd hc) pt (by simpa using intsAre_of rv) (fun i hi=>?_) fun h' tk hS hk=>?_
 ·have:=ia (fun i=>ns.getD i 0) (ns.length-i) i;rw[show i+(ns.length-i)=ns.length by omega,dQ]at this;omega
 ·rw[hz,dQ]at hS;exact ⟨.ref s.heap.objs.size,_,I.laid (a:=s.heap.objs.size) (o:=.ext fun h=>Sx.nY X.w h s.heap.objs.size (Dm.dedup ns)) (t':=tk) (fun b u e=>hk b u (SI e) e) (SA _)
   (show aT X.prog X.w _ _ _ (.ext _) from ⟨hS,(let ⟨_,_,_,⟨o,ho,_⟩,_⟩:=hS;⟨o,ho⟩),fun h1 h2 x e=>x.at e⟩),rfl,k _ (I.hok.fresh (SA _))⟩
theorem xZ{X:Cx}(hc:X.calm=true):cg X (.builtin "sorted") (DL X.w):=by
 intro uW s σ H xs us Q I r h;obtain⟨p,ns,rfl,hq,hl,k⟩:=h;obtain⟨u,rfl,rx⟩:=vals1 r;cases rx;obtain⟨⟨es,ep,t,x1,g,sm,led,he,pm⟩,_⟩:=(show aT X.prog X.w H s.heap p (.ext _) from I.hok p _ hq)
 have Fd:es.size=ns.length:=by rw[<- pm.length_eq,Ss,SN]
 refine Calls.call_function_entry kind_sorted plain_sorted entry_sorted (args_sorted1 _) ?_;unfold Builtin.«sorted»;refine wpAny_bind (m:=checkCount "sorted" 1 1 _) (wpAny_pure ?_);refine wpAny_bind (PySem.W.kdu_collect (A:=X.A.in1) (Sx.HD (prog:=X.prog) (w:=X.w) (a:=p) (ep:=ep) g sm.le led) (I.ok.hd hc) x1 (by rw[Fd];exact S8 hl (by decide)) fun h' tk En hk hacc=>?_);have ew:En.toList=Sx.dc X.w p es ep:=by
  apply UQ;intro i;by_cases hi:i<En.toList.length
  ·rw[SK hi];exact(hacc.2 i _ (by rw[<- TZ,SK hi])).symm
  ·rw[Tj (by omega),Tj (by rw[Sx.gD,<- hacc.1,<- SN];omega)]
 have wp:=Sx.qX X.w p es ep;rw[<- ew]at wp;have hI:∃ms:List Int,IntsAre En.toList ms/\ms.Perm ns:=by
  have all:∀v∈En.toList,∃tk,v=.int (Sx.ky v) tk:=fun v hv=>by obtain⟨e,he',rfl⟩:=SW.mp (wp.mem_iff.mp hv);exact(he e he').2
  refine⟨En.toList.map Sx.ky,?_,?_⟩
  ·have:∀l:List Value,(∀v∈l,∃tk,v=.int (Sx.ky v) tk)->IntsAre l (l.map Sx.ky):=fun l=>by
    induction l with
    |nil=>intro _;exact .nil
    |cons v l ih=>
     intro hv;obtain⟨tk,e⟩:=hv v Sw;have e2:v::l=.int (Sx.ky v) tk::l:=by rw[<- e]
     rw[Sq,e2];exact .cons _ _ (ih fun y hy=>hv y (Sy _ hy))
   exact this _ all
  ·refine(wp.map Sx.ky).trans ?_;rw[TN];exact pm
 obtain⟨nz,hI,pz⟩:=hI;have hn:En.toList.length<=63:=by rw[SN,hacc.1,Fd];exact hl
 refine wpAny_bind (wpAny_newList ?_ (S8 hn (by decide)));have hL0:(h'.push (seqObj "list" En.toList.toArray 0)).get? h'.objs.size=some (seqObj "list" En.toList.toArray 0):=S2 _ rfl;have I1:=I.kept (t':=tk) hk;refine wpAny_bind (wpAny_holding (wpAny_call_entry (s:={ s with heap:=h'.push (seqObj "list" En.toList.toArray 0),toks:=tk }) slot_list_sort ⟨_,hL0,rfl⟩ entry_list_sort (list_sort_tree hL0 hI (by omega) fun out ms a1 a2 a3=>⟨_,rfl,?_⟩) (args_list_sort _)));obtain⟨c,hc'⟩:=sortedHeap_at (out:=out) hL0;have hz2:(ms.map V.int).length<=sizeLine:=by rw[Ss,a2.length_eq,pz.length_eq];exact S8 hl (by decide)
 refine wpAny_pure ⟨_,rfl,.ref h'.objs.size,_,I1.laid (t':=tk) (fun b o e=>?_) (SA _) (show aT X.prog X.w _ _ _ (.lst (ms.map V.int)) from ⟨hz2,out.toList,c,dD a1,by simpa using hc'⟩),rfl,k ms _ (a2.trans pz) a3 (I1.hok.fresh (SA _))⟩;have lt:=SI e;rw[sortedHeap_old (S7 lt) (by rw[size_push'];exact UR lt)];exact Sz _ e
section
variable{X:Cx}{e:Expr}{f:Dm.FE}{p p0 pos iB:Pos}
theorem Bg{w:World}{σ:L2.St}{H:Hp}{Q:VK}(h:tD (Dm.e1 Dm.eX f) σ H Q):tCB (DL w) (eG (tCB (Jl w) (eG (tD f) kI)) kI) σ H Q:=by
 obtain⟨H0,ρ,x,ρ',st,e,k⟩:=h;unfold Dm.e1 at e;split at e
 ·cases e
 rename_i x1 ρ1 e1;split at e
 ·cases e
 rename_i dx p1;split at e
 ·cases e
 rename_i z gz;cases e;unfold Dm.eX at gz;split at gz
 ·rename_i ds;split at gz
  ·rename_i ns en;split at gz
   ·rename_i hb;cases gz;refine⟨H0,ρ,x1,_,st,e1,fun v H1 Hb t1 r1=>?_⟩;obtain⟨a,xs,rfl,qa,ra⟩:=eT t1.st.same (r1.look t1.st p1);have ex:=nI ra en;subst ex;refine⟨a,ns,rfl,qa,hb,fun l hl=>⟨l,Dm.dedup ns,rfl,ao,by omega,fun ms p pm so hp=>?_⟩⟩;have em:ms=Dm.cU (fun a b=>decide (a<b)) (Dm.dedup ns):=Dm.d8 (lt:=fun a b=>decide (a<b)) (fun a b h1 h2=>by simp at h1 h2;omega) (pm.trans (Dm.cK _ _).symm) (so.imp fun {a b} h=>by simp;omega)
     (Dm.di (fun a b c h1 h2=>by simp at *;omega) (fun a b h=>by simp at *;omega) _)
    subst em;have g1:=aD.gb (o:=.ext fun h=>Sx.nY w h l (Dm.dedup ns)) t1.st.same hl;have t2:=t1.trans (.grow t1.st g1);have g2:=aD.gb (o:=.lst ((Dm.cU (fun a b=>decide (a<b)) (Dm.dedup ns)).map V.int)) t2.st.same hp;have t3:=t2.trans (.grow t2.st g2);refine k _ _ _ t3 ⟨p,rfl,t2.stp.gone hp,t2.st.bh hp,t2.st.same.free hp,_,ao,?_⟩;exact kX _
   ·cases gz
  ·cases gz
 ·cases gz
theorem Bh(hc:X.calm=true)(hgl:Gl X "sorted")(hml:X.mg "sorted" = none)(hg:Gl X "set")(hm:X.mg "set" = none)(h:DE X e f)(hs:starEach [e] X.env=[(false,eval e X.env)]:=by rfl)
  (hs0:starEach [.Call (.Name "set" p) [e] [] pos] X.env=[(false,eval (.Call (.Name "set" p) [e] [] pos) X.env)]:=by rfl) (HL:(backTo pos (starEach [] X.env)).any (·.1)=false:=by rfl) (LC:(backTo iB (starEach [] X.env)).any (·.1)=false:=by rfl) :
  DE X (.Call (.Name "sorted" p0) [.Call (.Name "set" p) [e] [] pos] [] iB) (Dm.e1 Dm.eX f):=
 PE.weak (jO (xZ hc) hgl hml boot_sorted (b4 (kJ (Bf hc) hg hm (by rfl) (b4 h dM hs) (he:=hs) (HL:=HL)) dM hs0) (he:=hs0) (HL:=LC)) fun _ _ _=>Bg
end
theorem aN.snoc{H0 H:Hp}{p:Addr}{xs:List V}{r:List Dm.Dat}(h1:H p=Option.some (.lst xs))(h2:az H0 xs r):∀{ps:List Addr} {rs:List (List Dm.Dat)},aN H0 H ps rs->aN H0 H (ps++[p]) (rs++[r])
 |[],[],_=>⟨⟨xs,h1,h2⟩,trivial⟩
 |_::_,_::_,h=>⟨h.1,aN.snoc h1 h2 h.2⟩
end Br
namespace Sx
open PySem PySem.SetTable
open PySem PySem.SetTable PySem.W PyProof.Rows
end Sx
namespace Br
open PySem PySem.Spec PyProof.Rows L2
open PySem L2
structure a_(K:gc)(x:Str)(st:Stmt)(a:Addr)(fd:FuncData):Prop where
 e:Ti K mainGlobals x=some (some (.ref a))
 F:Fun K x x st a fd
variable{K:gc}{x:Str}{st:Stmt}{a:Addr}{fd:FuncData}{hp:Heap}{mg:Str->Option Value}
theorem aE{oc:Value}{od an:Option Addr}{osl:Array (Option Value)}{kV doc pm cdv ct:Value}(e:Ti K mainGlobals x=some (some (.ref a)))
  (l:K.lookup a=some ⟨oc,od,.func (Tq x x (bf st) (aV st) (ah st) .none kV doc pm an cdv ct),osl⟩) (c:Vw K cdv x=true) (k:TY K (.ref a)=true) :
  a_ K x st a (Tq x x (bf st) (aV st) (ah st) .none kV doc pm an cdv ct):=⟨e,KJ l c k⟩
theorem mgo{v:Value}(X:K.In hp)(G:hp.Ns mainGlobals mg)(e:Ti K mainGlobals x=some (some v)):mg x=some v:=PySem.W.mg_of X G e
theorem mno(X:K.In hp)(G:hp.Ns mainGlobals mg)(e:Ti K mainGlobals x=some none):mg x=none:=PySem.W.mg_none_of X G e
theorem a_.m(h:a_ K x st a fd)(X:K.In hp)(G:hp.Ns mainGlobals mg):mg x=some (.ref a):=PySem.W.mg_of X G h.e
theorem a_.RI{y:Str}(h:a_ K x st a fd)(hb:∀(kV doc pm:Value) (an:Option Addr) (cdv ct v:Value),bindArgs (Tq x x (bf st) (aV st) (ah st) .none kV doc pm an cdv ct) ⟨[v],[]⟩=pure [(y,v)])(s:Shared)(v:Value):BindsTo s fd ⟨[v],[]⟩ [(y,v)]:=by obtain⟨oc,od,kV,doc,pm,an,cdv,ct,osl,rfl,lk,PJ⟩:=h.F.ex;exact .of_eq (hb kV doc pm an cdv ct v)
theorem hm{j k:Nat}{A:Around}(r:bq k A)(h:j<=k:=by decide):bq j A:=r.mono h
theorem fsc{N P:List Str}{sc:Scope}(h1:sc.kind=.function)(h2:sc.isCoroutine=false)(h3:sc.isGenerator=false)(h4:N.take P.length=P)(h:N.Nodup/\(∀x∈P,sc.names.lookup x=some .local\/sc.names.lookup x=some .cell)/\∀y∈sc.names,y.2≠.free):ay N P sc:=⟨h1,h2,h3,h.1,h4,h.2.1,h.2.2⟩
end Br
namespace Br
open PySem PySem.Spec PyProof.Rows L2
end Br
namespace Sx
open PySem PySem.SetTable PySem.W PyProof.Rows
end Sx
namespace Br
open PySem PySem.Spec PyProof.Rows L2
end Br
namespace Dm
noncomputable def codes(s:String):List Nat:=s.toList.map Char.toNat
noncomputable def shJ:List (List Nat)->List Nat
 |[]=>[]
 |[x]=>x
 |x::y::r=>x++44::32::shJ (y::r)
mutual
noncomputable def shw:Dat->List Nat
 |.non=>codes "None"
 |.bl b=>codes (if b then "True" else "False")
 |.int i=>codes (toString i)
 |.str s=>39::(s++[39])
 |.tup xs=>40::(shJ (fW xs)++(if xs.length == 1 then [44,41] else [41]))
 |.lst xs=>91::(shJ (fW xs)++[93])
 |_=>[]
noncomputable def fW:List Dat->List (List Nat)
 |[]=>[]
 |x::r=>shw x::fW r
end
mutual
noncomputable def dU:Nat->Dat->Bool
 |_,.non=>true
 |_,.bl _=>true
 |_,.int i=>decide (i.natAbs<10 ^ 100)
 |_,.str s=>decide (s=[115,105,110,99,101]\/s=[110,101,118,101,114])
 |n+1,.tup xs=>bY n xs
 |n+1,.lst xs=>bY n xs
 |_,_=>false
noncomputable def bY:Nat->List Dat->Bool
 |_,[]=>true
 |n,x::r=>dU n x&&bY n r
end
mutual
noncomputable def iH:Dat->Nat
 |.tup xs=>1+fR xs
 |.lst xs=>1+fR xs
 |_=>1
noncomputable def fR:List Dat->Nat
 |[]=>0
 |x::r=>iH x+fR r
end
noncomputable def n6:List Dat->Option RV
 |[.tup xs]=>if dU 8 (.tup xs)=true/\iH (.tup xs)<=900 then some (.val (.str (shw (.tup xs)))) else none
 |[.lst xs]=>if dU 8 (.lst xs)=true/\iH (.lst xs)<=900 then some (.val (.str (shw (.lst xs)))) else none
 |_=>none
theorem repr_len{n:Nat}(h:n<10 ^ 100):n.repr.toList.length<=100:=by rw[Nat.toList_repr];exact(Nat.length_toDigits_le_iff (by decide) (by decide)).mpr h
theorem uP{i:Int}(h:i.natAbs<10 ^ 100):(shw (.int i)).length<=101:=by
 unfold shw codes;rw[Ss,Int.toString_eq_repr];unfold Int.repr;cases i with
 |ofNat m=>exact Nat.le_succ_of_le (repr_len h)
 |negSucc m=>dsimp only;rw[String.toList_append,SJ];have:=repr_len (n:=m.succ) h;show 1+_<=101;omega
theorem sQ:∀l:List (List Nat),(shJ l).length<=(l.map fun x=>x.length+2).sum
 |[]=>S6 _
 |[x]=>by simp[shJ]
 |x::y::r=>by have:=sQ (y::r);unfold shJ;simp only[SJ,S1,Sq,List.sum_cons]at this ⊢;omega
mutual
theorem sS:∀(n:Nat) (d:Dat),dU n d=true->(shw d).length+2<=110*iH d
 |_,.non,_=>by decide
 |_,.bl b,_=>by cases b<;>decide
 |n,.int i,h=>by have:=uP (i:=i) (by cases n<;>exact of_decide_eq_true h);unfold iH;omega
 |n+1,.tup xs,h=>by have:=n8 n xs h;have j:=sQ (fW xs);unfold shw iH;simp only[S1,SJ];split<;>simp<;>omega
 |n+1,.lst xs,h=>by have:=n8 n xs h;have j:=sQ (fW xs);unfold shw iH;simp only[S1,SJ];simp;omega
 |0,.tup xs,h=>by cases h
 |0,.lst xs,h=>by cases h
 |n,.str s,h=>by
  have h:s=[115,105,110,99,101]\/s=[110,101,118,101,114]:=by cases n<;>exact of_decide_eq_true h
  rcases h with rfl | rfl<;>decide
 |0,.dct _ _,h=>by cases h
 |_+1,.dct _ _,h=>by cases h
 |0,.exc _,h=>by cases h
 |_+1,.exc _,h=>by cases h
 |0,.fn _,h=>by cases h
 |_+1,.fn _,h=>by cases h
theorem n8:∀(n:Nat) (xs:List Dat),bY n xs=true->((fW xs).map fun x=>x.length+2).sum<=110*fR xs
 |_,[],_=>by simp[fW]
 |n,x::r,h=>by unfold bY at h;rw[SQ]at h;have a:=sS n x h.1;have b:=n8 n r h.2;unfold fW fR;simp only[Sq,List.sum_cons];omega
end
end Dm
namespace Br
open PySem PySem.Spec PyProof.Rows L2
mutual
noncomputable def pyD:Dm.Dat->PyData
 |.bl b=>.bool b
 |.int i=>.int i
 |.str s=>.str ⟨s.toArray⟩
 |.tup xs=>.tuple (g6 xs)
 |.lst xs=>.list (g6 xs)
 |_=>.none
noncomputable def g6:List Dm.Dat->List PyData
 |[]=>[]
 |x::r=>pyD x::g6 r
end
theorem uQ:∀xs:List Dm.Dat,(g6 xs).length=xs.length
 |[]=>rfl
 |x::r=>by simp[g6,uQ r]
theorem eE(s:String):U8 s=⟨(Dm.codes s).toArray⟩:=Str.ofString_eq_toList s
theorem fE(a b:List Nat):((⟨a.toArray⟩:Str)++(⟨b.toArray⟩:Str))=⟨(a++b).toArray⟩:=by show Str.append _ _=_;unfold Str.append;simp
theorem n9:∀l:List (List Nat),Str.join ", " (l.map fun x=>(⟨x.toArray⟩:Str))=⟨(Dm.shJ l).toArray⟩
 |[]=>rfl
 |[x]=>rfl
 |x::y::r=>by have:=n9 (y::r);show (⟨x.toArray⟩:Str)++(", " : Str)++Str.join ", " ((y::r).map fun x=>(⟨x.toArray⟩:Str))=_;rw[this];have e:((", " : String):Str)=⟨[44,32].toArray⟩:=eE ", ";rw[e,fE x [44,32],fE (x++[44,32]) (Dm.shJ (y::r))];simp[Dm.shJ]
mutual
theorem uR:∀(n:Nat) (d:Dm.Dat),Dm.dU n d=true->(pyD d).shown=⟨(Dm.shw d).toArray⟩
 |_,.non,_=>by unfold pyD;rw[PyData.shown_none];exact eE "None"
 |_,.bl b,_=>by
  unfold pyD;rw[PyData.shown_bool];cases b
  ·exact eE "False"
  ·exact eE "True"
 |_,.int i,_=>by unfold pyD;rw[PyData.shown_int];exact eE (toString i)
 |n+1,.tup xs,h=>by
  unfold pyD;rw[PyData.shown_tuple,k9 n xs h,n9,uQ];have e1:(("(" : String):Str)=⟨[40].toArray⟩:=eE "(";rw[e1,fE [40] (Dm.shJ (Dm.fW xs))];unfold Dm.shw;by_cases q:(xs.length == 1)=true
  ·rw[if_pos q,if_pos q];have e2:((",)" : String):Str)=⟨[44,41].toArray⟩:=eE ",)";rw[e2,fE ([40]++Dm.shJ (Dm.fW xs)) [44,41]];simp
  ·rw[if_neg q,if_neg q];have e2:((")" : String):Str)=⟨[41].toArray⟩:=eE ")";rw[e2,fE ([40]++Dm.shJ (Dm.fW xs)) [41]];simp
 |n+1,.lst xs,h=>by unfold pyD;rw[PyData.shown_list,k9 n xs h,n9];have e1:(("[" : String):Str)=⟨[91].toArray⟩:=eE "[";have e2:(("]" : String):Str)=⟨[93].toArray⟩:=eE "]";rw[e1,e2,fE [91] (Dm.shJ (Dm.fW xs)),fE ([91]++Dm.shJ (Dm.fW xs)) [93]];unfold Dm.shw;simp
 |0,.tup xs,h=>by cases h
 |0,.lst xs,h=>by cases h
 |n,.str s,h=>by
  have h:s=[115,105,110,99,101]\/s=[110,101,118,101,114]:=by cases n<;>exact of_decide_eq_true h
  unfold pyD;rw[PyData.shown_str];rcases h with rfl | rfl<;>decide +kernel
 |0,.dct _ _,h=>by cases h
 |_+1,.dct _ _,h=>by cases h
 |0,.exc _,h=>by cases h
 |_+1,.exc _,h=>by cases h
 |0,.fn _,h=>by cases h
 |_+1,.fn _,h=>by cases h
theorem k9:∀(n:Nat) (xs:List Dm.Dat),Dm.bY n xs=true->PyData.shownAll (g6 xs)=(Dm.fW xs).map fun x=>(⟨x.toArray⟩:Str)
 |_,[],_=>by unfold g6 Dm.fW;rw[PyData.shownAll_nil];rfl
 |n,x::r,h=>by unfold Dm.bY at h;rw[SQ]at h;unfold g6 Dm.fW;rw[PyData.shownAll_cons,uR n x h.1,k9 n r h.2];rfl
end
mutual
theorem DM:∀(n:Nat) (d:Dm.Dat),Dm.dU n d=true->(pyD d).showable=true/\(pyD d).hasDict=false/\(pyD d).depth<=n
 |_,.non,_=>by unfold pyD UN UW PyData.depth;exact⟨rfl,rfl,S6 _⟩
 |_,.bl b,_=>by unfold pyD UN UW PyData.depth;exact⟨rfl,rfl,S6 _⟩
 |n,.int i,h=>by
  unfold pyD UN UW PyData.depth;refine⟨decide_eq_true ?_,rfl,S6 _⟩;have hi:i.natAbs<10 ^ 100:=by cases n<;>exact of_decide_eq_true h
  by_cases z:i.natAbs=0
  ·rw[z];decide
  ·exact(Nat.log2_lt z).mpr (Vo hi (by decide))
 |n+1,.tup xs,h=>by obtain⟨h1,h2,h3⟩:=fits_of n xs h;unfold pyD UN UW PyData.depth;exact⟨h1,h2,by omega⟩
 |n+1,.lst xs,h=>by obtain⟨h1,h2,h3⟩:=fits_of n xs h;unfold pyD UN UW PyData.depth;exact⟨h1,h2,by omega⟩
 |0,.tup xs,h=>by cases h
 |0,.lst xs,h=>by cases h
 |n,.str s,h=>by unfold pyD UN UW PyData.depth;exact⟨rfl,rfl,S6 _⟩
 |0,.dct _ _,h=>by cases h
 |_+1,.dct _ _,h=>by cases h
 |0,.exc _,h=>by cases h
 |_+1,.exc _,h=>by cases h
 |0,.fn _,h=>by cases h
 |_+1,.fn _,h=>by cases h
theorem fits_of:∀(n:Nat) (xs:List Dm.Dat),Dm.bY n xs=true->VG (g6 xs)=true/\VQ (g6 xs)=false/\Uc (g6 xs)<=n
 |_,[],_=>by unfold g6 VG VQ Uc;exact⟨rfl,rfl,S6 _⟩
 |n,x::r,h=>by unfold Dm.bY at h;rw[SQ]at h;obtain⟨a1,a2,a3⟩:=DM n x h.1;obtain⟨b1,b2,b3⟩:=fits_of n r h.2;unfold g6 VG VQ Uc;exact⟨by rw[a1,b1];rfl,by rw[a2,b2];rfl,Nat.max_le.mpr ⟨a3,b3⟩⟩
end
section
variable{uW:List (Addr×Obj)}{s:Shared}{σ:L2.St}{X:Cx}{H:Hp}
mutual
theorem uS(I:Inv X uW σ H s):∀(n:Nat) (d:Dm.Dat) (v:V) (u:Value),Dm.dU n d=true->Rep H v d->RelV v u->∃as,Reads s.heap u (pyD d) as
 |_,.non,v,u,_,r,q=>by cases r;cases q;unfold pyD;exact⟨_,.none⟩
 |_,.bl b,v,u,_,r,q=>by cases r;cases q;unfold pyD;exact⟨_,.bool b⟩
 |_,.int i,v,u,_,r,q=>by cases r;obtain⟨t,rfl⟩:=q;unfold pyD;exact⟨_,.int i t⟩
 |n+1,.tup ds,v,u,h,r,q=>by
  cases r with
  |@tup a xs _ hq rs=>cases q;obtain⟨its,rv,⟨o,ho,hc,m,hd⟩,hz⟩:=I.tuple (SqT.of (K:=X.K) hq);obtain⟨as,ha⟩:=k_ I n ds xs its h rs rv;unfold pyD;exact⟨as,.tuple ho hc hd (by simpa using ha)⟩
 |n+1,.lst ds,v,u,h,r,q=>by
  cases r with
  |@lst a xs _ hq rs=>cases q;obtain⟨its,rv,⟨o,m,ho,hc,_,hd⟩,hz⟩:=I.list (.inl hq);obtain⟨as,ha⟩:=k_ I n ds xs its h rs rv;unfold pyD;exact⟨_,.list ho hc hd (by simpa using ha)⟩
 |0,.tup xs,_,_,h,_,_=>by cases h
 |0,.lst xs,_,_,h,_,_=>by cases h
 |n,.str s,v,u,_,r,q=>by cases r;obtain⟨t,rfl⟩:=q;unfold pyD;exact⟨_,.str _ t⟩
 |0,.dct _ _,_,_,h,_,_=>by cases h
 |_+1,.dct _ _,_,_,h,_,_=>by cases h
 |0,.exc _,_,_,h,_,_=>by cases h
 |_+1,.exc _,_,_,h,_,_=>by cases h
 |0,.fn _,_,_,h,_,_=>by cases h
 |_+1,.fn _,_,_,h,_,_=>by cases h
theorem k_(I:Inv X uW σ H s):∀(n:Nat) (ds:List Dm.Dat) (vs:List V) (us:List Value),Dm.bY n ds=true->az H vs ds->Vals vs us->∃as,ReadsAll s.heap us (g6 ds) as
 |_,[],vs,us,_,r,q=>by cases r;cases q;unfold g6;exact⟨_,.nil⟩
 |n,d::ds,vs,us,h,r,q=>by
  cases r with
  |cons r rs=>
   cases q with
   |cons q qs=>unfold Dm.bY at h;rw[SQ]at h;obtain⟨as,ha⟩:=uS I n d _ _ h.1 r q;obtain⟨bs,hb⟩:=k_ I n ds _ _ h.2 rs qs;unfold g6;exact⟨_,.cons ha hb⟩
end
end
def Pc:List V->Hp->VK->Prop:=fun xs H Q=>∃(a:Addr) (d:Dm.Dat),xs=[.ref a]/\Dm.dU 8 d=true/\(Dm.shw d).length<=sizeLine/\Rep H (.ref a) d/\Q (.str ⟨(Dm.shw d).toArray⟩) H
theorem uT{X:Cx}{k:Nat}(hr:bq k X.A):cg X (.type "str") Pc:=by intro uW s σ H xs us Q I r h;obtain⟨a,d,rfl,hd,hz,rd,q⟩:=h;obtain⟨u,rfl,rx⟩:=vals1 r;cases rx;obtain⟨as,ha⟩:=uS I 8 d _ _ hd rd rfl;obtain⟨f1,f2,f3⟩:=DM 8 d hd;have sh:=uR 8 d hd;have un:=hr.un;refine str_of_reads ha f1 (fun z=>by rw[f2]at z;cases z) hr.gd (by omega) (fun _ _ e=>e) (fun h' u tk kp=>?_) (by rw[sh];exact S8 (by show (Dm.shw d).toArray.size<=_;simp) hz);rw[sh];exact⟨.str ⟨(Dm.shw d).toArray⟩,H,I.kept (t':=tk) kp,⟨u,rfl⟩,q⟩
theorem L7:CallD Pc Dm.n6:=by
 intro H0 H vs ds z Q s rs e k;have sz:110*900<=sizeLine:=by decide
 unfold Dm.n6 at e;split at e
 ·split at e
  ·rename_i hk;cases e;cases rs with
   |cons r rr=>
    cases rr;rcases r with r | ⟨a,_,w⟩
    ·cases r with
     |tup q rs=>have rp:Rep H (.ref _) (.tup _):=.tup (s _ _ q) (rs.mono s);have:=Dm.sS 8 _ hk.1;have h2:=hk.2;exact⟨_,_,rfl,hk.1,by omega,rp,k _ H0 H (aD.refl s) (.str _)⟩
    ·exact Tt w
  ·cases e
 ·split at e
  ·rename_i hk;cases e;cases rs with
   |cons r rr=>cases rr;obtain⟨a,us,rfl,qa,ra⟩:=bx s r;have rp:Rep H (.ref a) (.lst _):=.lst qa (ra.mono s);have:=Dm.sS 8 _ hk.1;have h2:=hk.2;exact⟨_,_,rfl,hk.1,by omega,rp,k _ H0 H (aD.refl s) (.str _)⟩
  ·cases e
 ·cases e
section
variable{X:Cx}{e:Expr}{fs:List Dm.FE}{p pos:Pos}{k:Nat}
theorem Jm(hr:bq k X.A)(hg:Gl X "str")(hm:X.mg "str" = none)(ha:DA X [e] fs)(he:starEach [e] X.env=[(false,eval e X.env)]:=by rfl)(HL:(backTo pos (starEach [] X.env)).any (·.1)=false:=by rfl):DE X (.Call (.Name "str" p) [e] [] pos) (Dm.eB Dm.n6 fs):=CH (uT hr) L7 (by rfl) hg hm ha (he:=he) (HL:=HL)
end
end Br
namespace Br
open PySem PySem.Spec PyProof.Rows L2
end Br
namespace Dm
noncomputable def nEs(bd:FB)(u:FE):List Dat->Env->Option Env
 |[],ρ=>some ρ
 |d::q,ρ=>match bd d ρ with
  |none=>none
  |some ρ1=>match u ρ1 with
   |none=>none
   |some (_,ρ2)=>nEs bd u q ρ2
noncomputable def Bj(j i:Nat)(e:FE)(bd:FB)(u:FE):FN:=fun ρ r=>if i=0\/i=j then none else match e ρ with
 | some (.new (.lst ds),ρ1)=>(match nEs bd u ds (ρ1.set i .un) with
  |none=>none
  |some ρ2=>if r.length<SZ then some (ρ2,r++[ds]) else none)
 |_=>none
noncomputable def qY(j:Nat)(Px:FN):FSP:=fun ρ=>if j=0 then none else match Px (ρ.set j .un) [] with
 |none=>none
 |some (_,r)=>some (.l (r.map fun row=>.l (row.map .s)))
inductive PT where
 |e (f:FE)
 |x (z:Nat)
noncomputable def HE:Dp->Option (List Dat)
 | .l xs=>xs.foldr (fun x a=>match x,a with
  |.s d,some ds=>some (d::ds)
  |_,_=>none) (some [])
 |_=>none
noncomputable def qZ:List Dp->Option (List (List Dat))
 |[]=>some []
 |x::r=>match HE x,qZ r with
  |some a,some b=>some (a::b)
  |_,_=>none
end Dm
namespace Br
open PySem PySem.Spec PyProof.Rows L2
section
variable{D:Ends}{σ:L2.St}{H:Hp}{j:Nat}
theorem L8{K:gc}{i:Nat}{f u:Dm.FE}{bd:Dm.FB}{g:TG}{is:List Nat}(hb:BD is g bd)(hj:j∉is)(hi:i∉is)(hil:i<σ.length)(h:tDN j (Dm.Bj j i f bd u) D σ H) :
  fU (jK (tD f) (cH i)) (fU (BZ (mW K (fT i)) g (jJ (tD u))) (jJ (tBM K "list" mF (fT j) (eG (fT i) kI)))) D σ H:=by
 obtain⟨σs,ρs,H0s,Hs,H0,ρ,rows,ρ',rows',n,e,k⟩:=h;unfold Dm.Bj at e;split at e
 ·cases e
 rename_i hij;have hi0:i≠0:=fun z=>hij (.inl z);have hnj:i≠j:=fun z=>hij (.inr z);split at e
 case h_2=>cases e
 rename_i ds ρ1 e1;split at e
 ·cases e
 rename_i ρ2 e2;split at e
 case isFalse=>cases e
 rename_i hz;cases e;refine⟨H0,ρ,_,ρ1,n.st,e1,fun v H0' H' t r=>?_⟩;obtain⟨a,ea,na,no,n0,xs,ha,rs⟩:=r;subst ea;have m:=n.est t;obtain⟨L,ps,y1,y2,y3,y4,y5,y6,y7,y8⟩:=n.ex;obtain⟨k1,k2,k3⟩:=t.bR y5 y3 y4;obtain⟨s1,s2⟩:=m.st.nS i (some (.ref a));have n1:=m.bind s1 s2 (eg hnj) (eg hi0);have nLa:L≠a:=fun z=>by rw[z,na]at y5;cases y5
 have nPa:a∉ps:=fun hp=>by obtain⟨o,q⟩:=y8.some a hp;rw[na]at q;cases q
 have hsa:Hs a=none:=n.stp.gone na;refine⟨_,SR hil,a,rfl,⟨xs,.inl (.inl ha)⟩,?_⟩;have jw:=uA (K:=K) (a:=a) rs;refine ⟨fun q m σ' H1=>∃ H0c ρc,NS j σs ρs H0s Hs σ' ρc H0c H1 rows∧ak H0' H0c∧m=ds.length-q∧q≤ds.length∧Dm.nEs bd u (ds.drop q) ρc=some ρ'∧(H1 a=some (.lst xs)∧H0c a=none∧¬ ai σ' ρc a)∧σ'[i]?=some (some (.ref a))∧σ'[j]?=some (some (.ref L))∧(H1 L=some (.lst (ps.map V.ref))∧H0c L=none∧¬ ai σ' ρc L),
  ⟨ds.length,H0',ρ1.set i .un,n1,ak.refl _,by simp,S6 _,by simpa using e2,⟨ha,n0,fun z=>no (s2 a z)⟩,SR hil,(eg hnj).trans y1,⟨k1,k2,fun z=>k3 (s2 L z)⟩⟩,?_⟩
 rintro q m' σ' H1 ⟨H0c,ρc,nc,s0c,rfl,hq,ec,fa,hsi,hsj,fL⟩;obtain⟨js,jg⟩:=jw H0c H1 s0c nc.st.same fun z ez=>by cases ez;exact fa.1
 by_cases HY:q<ds.length
 ·have hd:ds[q]?=some ds[q]:=by simp[HY]
  obtain⟨g1,g2⟩:=jg q ds[q] hd;rw[TX HY]at ec;unfold Dm.nEs at ec;refine .inr ⟨g1,fun σ' H1=>∃H0c ρc,NS j σs ρs H0s Hs σ' ρc H0c H1 rows/\ak H0' H0c/\Dm.nEs bd u (ds.drop (q+1)) ρc=some ρ'/\(H1 a=some (.lst xs)/\H0c a=none/\¬ai σ' ρc a)/\σ'[i]?=some (some (.ref a))/\σ'[j]?=some (some (.ref L))/\(H1 L=some (.lst (ps.map V.ref))/\H0c L=none/\¬ai σ' ρc L),?_,fun x H2 y=>?_⟩
  ·rintro σ2 H2 ⟨H0d,ρd,h1,h2,h3,h4⟩;exact⟨ds.length-(q+1),by omega,H0d,ρd,h1,h2,rfl,HY,h3,h4⟩
  ·obtain⟨H0d,gr,rx⟩:=g2 x H2 y;split at ec
   ·cases ec
   rename_i ρ3 e3;split at ec
   ·cases ec
   rename_i w ρ4 e4;have t2:=ESt.grow nc.st gr;refine hb H0d H2 σ' ρc ρ3 x ds[q] _ t2.st rx e3 fun σ3 st3 o3 kk3 d3 f3=>?_;have n3:=(nc.est t2).bind st3 o3 (kk3 j hj) f3;refine⟨H0d,ρ3,w,ρ4,st3,e4,fun v4 H04 H4 t4 _=>?_⟩;obtain⟨p1,p2,p3⟩:=t2.bR fa.1 fa.2.1 fa.2.2;obtain⟨q1,q2,q3⟩:=t4.bR p1 p2 fun z=>p3 (o3 a z);obtain⟨u1,u2,u3⟩:=t2.bR fL.1 fL.2.1 fL.2.2;obtain⟨w1,w2,w3⟩:=t4.bR u1 u2 fun z=>u3 (o3 L z);exact⟨H04,ρ4,n3.est t4,(s0c.trans gr.s0).trans t4.stp.s0,ec,⟨q1,q2,q3⟩,(kk3 i hi).trans hsi,(kk3 j hj).trans hsj,⟨w1,w2,w3⟩⟩
 ·have e':q=ds.length:=by omega
  subst e';rw[Up]at ec;cases ec;refine .inl ⟨js _ (SA _),_,hsj,.inl ⟨rfl,ps.map V.ref,.inl (.inl fL.1)⟩,_,hsi,L,ps.map V.ref,.ref a,rfl,rfl,fL.1,?_,?_⟩
  ·rw[Ss,y8.len];exact SX hz (by decide)
  ·obtain⟨L',ps',v1,v2,v3,v4,v5,v6,v7,v8⟩:=nc.ex;rw[hsj]at v1;cases v1;have ep:ps'=ps:=by
    rw[fL.1]at v5;have:ps.map V.ref=ps'.map V.ref:=by injection v5 with z;injection z
    exact((List.map_inj_right fun a b h=>by injection h).mp this).symm
   subst ep;obtain⟨nd1,nd2⟩:=SV.mp v6;refine k σ' H0c _ ⟨nc.st.aside fL.2.1 fL.2.2,nc.stp.aside v2,nc.own,nc.fx,L,ps'++[a],hsj,v2,v3,v4,by rw[ao,S0];rfl,?_,fun p hp=>?_,?_⟩ (t.stp.s0.trans s0c)
   ·refine SV.mpr ⟨fun z=>?_,Tv.mpr ⟨nd2,by simp,fun b hb c hc z=>?_⟩⟩
    ·rcases S4.mp z with z | z
     ·exact nd1 z
     ·exact nLa (SY.mp z)
    ·rw[SY.mp hc]at z;exact nPa (z▸hb)
   ·rcases S4.mp hp with hp | hp
    ·exact v7 p hp
    ·rw[SY.mp hp];exact⟨hsa,fa.2⟩
   ·refine aN.snoc (xs:=xs) (by rw[aq (Ne.symm nLa)];exact fa.1) (rs.mono s0c) (v8.mono (ak.refl _) fun p hp=>?_);exact aq fun z=>nd1 (z▸hp)
theorem HF{Px:Dm.FN}(hj:j<σ.length)(h:tDP (Dm.qY j Px) D σ H):fU (jK (B7 kI) (cH j)) (fU (tDN j Px) (Au (fT j))) D σ H:=by
 obtain⟨H0,ρ,p,st,e,k⟩:=h;unfold Dm.qY at e;split at e
 ·cases e
 rename_i hj0;split at e
 ·cases e
 rename_i ρ3 r3 e3;cases e;refine⟨S6 _,fun L hL=>?_⟩;have gr:aD H0 H H0 (upd H L (.lst [])):=aD.gb st.same hL;have t1:=ESt.grow st gr;obtain⟨st2,om⟩:=t1.st.nS j (some (.ref L));have nL:¬ai σ ρ L:=st.bh hL;have n:NS j σ ρ H0 H (σ.set j (some (.ref L))) (ρ.set j .un) H0 (upd H L (.lst [])) []:=
  ⟨st2,t1.stp,fun a z=>.inl (om a z),eg hj0,L,[],SR hj,hL,st.same.free hL,fun z=>nL (om L z),ao,by simp,fun p hp=>(by cases hp),trivial⟩
 refine⟨σ,ρ,H0,H,H0,_,_,ρ3,r3,n,e3,fun σ4 H4 Hd n4 _=>?_⟩;obtain⟨L4,ps4,w1,w2,w3,w4,w5,w6,w7,w8⟩:=n4.ex;refine⟨_,w1,k σ4 ρ3 _ H4 Hd (L4::ps4) ⟨n4.st,n4.stp,n4.own,n4.fx⟩ (.l (.inl w2) w5 (w8.O_ fun p hp=>.inl (w7 p hp).1)) w6 fun a ha=>?_⟩;rcases SD.mp ha with rfl | ha
 ·exact w3
 ·exact(w7 a ha).2.1
end
section
variable{X:Cx}{e:Expr}{es:List Expr}{f:Dm.FE}{ts:List Dm.PT}{pos:Pos}{j lo:Nat}
section
variable{is:List Nat}{bd:Dm.FB}
theorem RJ(j:Nat)(nm own:List Str){tg iter PK:Expr}{PB:List Expr}{scope:Scope}{fi:Dm.FI}{t:Dm.FT}{y:Str}{py PL:Pos}(hN:X.N.Nodup)(hg:TGc X nm scope own tg is bd)(hi:DI X tg iter fi)(ht:∀cl C s H fp,DTs (aW X nm scope own cl C s H fp) PB t)(he:∀cl C s H fp,DE (aW X nm scope own cl C s H fp) PK f)
  (hc:X.calm=true:=by rfl) (hk:scope.kind=.function:=by rfl) (hS:nF X.env.scope X.N nm scope=true:=by rfl) (hl:(is.all fun i=>decide (X.N.length<=i))=true:=by rfl) (hj:X.N[j]?=some y:=by rfl) (hy:Loc X.env.scope y:=by trivial)
  (hsw:swapsWith (.ListComp PK [⟨tg,iter,PB,0⟩] scope pos) (some (.Name y py)) PL.line X.env=pure true:=by rfl) (hs:∀x,foldedSetIterable iter X.env x=pure x:=by intro _;rfl)
  (hf:X.fn y=true\/X.env.scope.names.lookup y=some .local:=by trivial):PS X (.Assign [.Name y py] (.ListComp PK [⟨tg,iter,PB,0⟩] scope pos) PL) (jK (tD (Dm.cC fi own.length bd t f)) (cH j)):=by
 obtain⟨g,h1,h2⟩:=hg.ex;intro uW s σ H D I h;exact gj hN hj hy hc (c_.of hS hk) hi h1 ht he hsw hs hf uW s σ H D I (sd h2 (fun i hi=>by rw[I.len];exact ux hl i hi) h)
theorem Pd(i:Nat){u:Dm.FE}{A:Stmt}{tg b:Expr}{x y:Str}{py py2 ep Pe px ap cp:Pos}(hA:PS X A (jK (tD f) (cH i)))(hp:PassesOwn (model X.prog X.w) X.A X.env X.xe)(hc:X.calm=true)(hg:TG' X tg is bd)(hu:DE X b u)
  (hjs:decide (j∈is)=false:=by rfl) (his:decide (i∈is)=false:=by rfl) (hi:X.N[i]?=some y:=by rfl) (hj:X.N[j]?=some x:=by rfl) (hvy:Vis X.env.scope y:=by trivial) (hvx:Vis X.env.scope x:=by trivial)
  (hdy:(y == ("__debug__" : Str))=false:=by decide) (hcy:(y == ("__classdict__" : Str))=false:=by decide) (hdx:(x == ("__debug__" : Str))=false:=by decide) (hcx:(x == ("__classdict__" : Str))=false:=by decide)
  (hs:∀z,foldedSetIterable (.Name y py) X.env z=pure z:=by intro _;rfl) (hse:swapsWith b none ep.line X.env=pure false:=by rfl)
  (Mg:attributeBase (.Name x px) "append" X.env (eval (.Name x px) X.env)=eval (.Name x px) X.env:=by rfl)
  (hfew:((backTo cp (starEach [.Name y py2] X.env)).all (fun x=>!x.1)&&(backToKw cp (keywordEach [] X.env)).all (fun x=>x.1.isSome)
   && decide ([Expr.Name y py2].length+([]:List Keyword).length+(if ([]:List Keyword).isEmpty then 0 else 1)<30))=true:=by rfl)
  (Ih:(ap.endLine == cp.line)=true:=by rfl) (hst:starEach [.Name y py2] X.env=(false,eval (.Name y py2) X.env)::starEach [] X.env:=by rfl) (Py:(backTo cp (starEach [] X.env)).any (·.1)=false:=by rfl)
  (hsw:swapsWith (.Call (.Attribute (.Name x px) "append" ap) [.Name y py2] [] cp) none pos.line X.env=pure false:=by rfl) :
  DNs X j [A,.For tg (.Name y py) [.Expr b ep] [] Pe,.Expr (.Call (.Attribute (.Name x px) "append" ap) [.Name y py2] [] cp) pos] (Dm.Bj j i f bd u):=by
 obtain⟨g,h1,h2⟩:=hg.ex;have h:=aY hA (aY (rR hp hc (mE (bL (pos:=py) hi hvy hdy hcy)) h1 (cQ (dX hu hse)) hs (pos:=Pe)) (cQ (dX (t_ T5 U9 Va gO (bL hj hvx hdx hcx) (b4 (bL hi hvy hdy hcy) dM hst) Mg hfew Ih hst Py) hsw)));intro uW s σ H D I q;exact h uW s σ H D I (L8 h2 (of_decide_eq_false hjs) (of_decide_eq_false his) (by rw[I.len];exact(Su.mp hi).1) q)
theorem L_(j:Nat){y:Str}{py PL xQ rp np:Pos}{Px:Dm.FN}{lst:Stmt}(hN:X.N.Nodup)(hlp:DN X j lst Px)(hj:X.N[j]?=some y:=by rfl)(hy:Loc X.env.scope y:=by trivial)
  (hs:swapsWith (.List [] xQ) (some (.Name y py)) PL.line X.env=pure false:=by rfl)
  (hf:X.fn y=true\/X.env.scope.names.lookup y=some .local:=by trivial) (hv:Vis X.env.scope y:=by trivial) (hd:(y == ("__debug__" : Str))=false:=by decide) (PJ:(y == ("__classdict__" : Str))=false:=by decide) :
  DQs X [.Assign [.Name y py] (.List [] xQ) PL,lst,.Return (some (.Name y np)) rp] (Dm.qY j Px):=by
 have h:=aY (kH hN hj hy (xg (pos:=xQ) dM) hs hf) (aY hlp (cQ (mV (pos:=rp) (bL (pos:=np) hj hv hd PJ))));intro uW s σ H D I q;exact h uW s σ H D I (HF (by rw[I.len];exact(Su.mp hj).1) q)
end
end
theorem HG{x:Dm.Dp}{r:List Dm.Dat}(h:Dm.HE x=some r):x=.l (r.map .s):=by
 cases x with
 |s d=>cases h
 |t xs=>cases h
 |l xs=>
  have key:∀ (xs:List Dm.Dp) (r:List Dm.Dat),xs.foldr (fun x a=>match x,a with
    |Dm.Dp.s d,some ds=>some (d::ds)
    |_,_=>none) (some [])=some r->xs=r.map .s:=by
   intro xs
   induction xs with
   |nil=>intro r h;cases h;rfl
   |cons x q ih=>
    intro r h;rw[List.foldr_cons]at h;split at h
    ·rename_i d ds hd;cases h;rw[ih ds hd];rfl
    ·cases h
  rw[key xs r h]
theorem uU:∀{xs:List Dm.Dp} {rs:List (List Dm.Dat)},Dm.qZ xs=some rs->xs=rs.map fun r=>.l (r.map .s)
 |[],rs,h=>by cases h;rfl
 |x::q,rs,h=>by
  unfold Dm.qZ at h;split at h
  ·rename_i a b ha hb;cases h;rw[HG ha,uU hb];rfl
  ·cases h
section
variable{D:Ends}{σ:L2.St}{H:Hp}{j:Nat}
theorem MS.list{σs:L2.St}{ρs:Dm.Env}{H0s Hs:Hp}{ρ:Dm.Env}{H0:Hp}{xs rows:List Dm.Dp}{m0:Nat}(nx:MS j σs ρs H0s Hs σ ρ H0 H (.t xs))(gF:xs[m0]?=some (.l rows)) :
  ∃(A L:Addr) (us vs:List V),σ[j]?=some (some (.ref A))/\H A=some (.tup us)/\us[m0]?=some (.ref L)/\H L=some (.lst vs)/\vs.length=rows.length:=by
 obtain⟨v,fp,q1,q2,q3⟩:=nx.ex;cases q2 with
 |t nA hA rs=>
  rename_i A us;obtain⟨u,f,hu,ru,_⟩:=rs.get gF;cases ru with
  |l nL hL rl=>exact⟨A,_,us,_,q1,hA,hu,hL,rl.length⟩
end
end Br
namespace Dm
noncomputable abbrev FQ:=Env->Dp->Option Dp
noncomputable def Bk(j:Nat)(f:List Dat->Option Dp)(as:List FE)(z:Nat)(g:FQ):FSP:=fun ρ=>if j=0 then none else match eAs as ρ with
 |none=>none
 |some (xs,ρ1)=>match tks ρ1 xs with
  |none=>none
  |some (ds,ρ2)=>match f ds with
   | some (.t ys)=>(match ys[z]? with
    |some p=>g (ρ2.set j .un) p
    |none=>none)
   |_=>none
noncomputable def Bl(c:FC)(g:FQ):FQ:=fun ρ p=>match c ρ p with
 |some (.nx ρ1 p1)=>g ρ1 p1
 |_=>none
inductive PU where
 |e (f:FE)
 |v (i:Nat)
 |w
noncomputable def fF(j:Nat)(ρ:Env)(p:Dp):Bool->List PU->Option (List Dp)
 |_,[]=>some []
 | b,.e f::r=>(match f (see j ρ p) with
  | some (.val d,_)=>if dg d then none else (match fF j ρ p b r with
   |none=>none
   |some ps=>some (.s d::ps))
  |_=>none)
 | b,.v i::r=>if i=j then none else (match ρ[i]? with
  | some (.sh d)=>(match fF j ρ p b r with
   |none=>none
   |some ps=>some (.s d::ps))
  |_=>none)
 | b,.w::r=>if b=true then none else (match fF j ρ p true r with
  |none=>none
  |some ps=>some (p::ps))
noncomputable def Bm(j:Nat)(ts:List PU):FQ:=fun ρ p=>match fF j ρ p false ts with
 |none=>none
 |some ps=>if ps.length<=SZ then some (.t ps) else none
noncomputable def n_(j z i:Nat):FC:=fun ρ p=>if i=0\/i=j then none else match p with
 | .t xs=>(match xs[z]? with
  | some (.l rows)=>(match qZ rows with
   |some rs=>some (.nx (ρ.set i .un) (.t (xs.set z (.l (rs.map fun _=>.l [])))))
   |none=>none)
  |_=>none)
 |_=>none
noncomputable def kh(a:FE)(lo hi:Option FE):FE:=fun ρ=>match a ρ with
 |none=>none
 |some (x,ρ1)=>match part lo ρ1 with
  |none=>none
  |some (l,ρ2)=>match part hi ρ2 with
   |none=>none
   |some (h,ρ3)=>match pk ρ3 x with
    |some (.tup xs)=>some (.val (.tup (cut xs l h)),ρ3)
    |_=>none
noncomputable def x8(z:Nat):FC:=fun ρ p=>match p with
 | .t xs=>(match xs[z]? with
  |some (.l _)=>some (.nx ρ (.t (xs.set z (.l []))))
  |_=>none)
 |_=>none
end Dm
namespace Br
open PySem PySem.Spec PyProof.Rows L2
theorem HH{l z:Nat}(h:z<l):Dm.ixN l (z:Int)=some z:=by unfold Dm.ixN;rw[if_pos (by omega),if_pos (by omega)];rfl
theorem x9{us:List V}{z:Nat}{u:V}(h:us[z]?=some u):atI us (z:Int)=some u:=by show (L2.ixN us.length (z:Int)).bind (fun j=>us[j]?)=_;rw[<- xB,HH (Su.mp h).1];exact h
theorem aG.mL{N:Addr->Prop}{H0 H:Hp}{x:Dm.Dp}:∀{vs:List V} {ps:List Dm.Dp} {fp:List Addr} {m:Nat},aG N H0 H vs ps fp->fp.Nodup->ps[m]?=some x ->
  ∃v f,vs[m]?=some v/\bF N H0 H v x f/\f.Sublist fp/\∀q o x' ls f',q∈f->H q=some (.lst ls)->bF N H0 (upd H q o) v x' f'->f'.Sublist f->∃fp',aG N H0 (upd H q o) vs (ps.set m x') fp'/\fp'.Sublist fp
 |_,_,_,_,.nil,_,e=>by simp at e
 |_,_,_,0,.cons h r,nd,e=>by simp at e;subst e;obtain⟨nd1,nd2,nd3⟩:=Tv.mp nd;refine⟨_,_,rfl,h,List.sublist_append_left _ _,fun q o x' ls f' hq hl h' hs=>⟨_,.cons h' (r.mono (ak.refl _) (fun _ z=>z) (fun a us _ z=>?_) fun a ha=>aq fun z=>nd3 q hq a ha z.symm),hs.append_right _⟩⟩;rw[aq fun y=>by rw[y,hl]at z;cases z];exact z
 |_,_,_,m+1,.cons h r,nd,e=>by obtain⟨nd1,nd2,nd3⟩:=Tv.mp nd;obtain⟨v,f,h1,h2,h3,h5⟩:=aG.mL (m:=m) r nd2 (by simpa using e);refine⟨v,f,by simpa using h1,h2,h3.trans (List.sublist_append_right _ _),fun q o x' ls f' hq hl h' hs=>?_⟩;obtain⟨fp',w1,w2⟩:=h5 q o x' ls f' hq hl h' hs;refine⟨_,.cons (h.mono (ak.refl _) (fun _ z=>z) (fun a us _ z=>?_) fun a ha=>aq fun z=>nd3 a ha q (h3.subset hq) z) w1,w2.append_left _⟩;rw[aq fun y=>by rw[y,hl]at z;cases z];exact z
section
variable{D:Ends}{σ:L2.St}{H:Hp}{j:Nat}
section
variable{rs:List (List Dm.Dat)}{ρ:Dm.Env}{H0s Hs:Hp}{ρs:Dm.Env}{H0:Hp}{σs:L2.St}{cz:Int}{q:Nat}
theorem dS.sub{σ:L2.St}{f g:List Addr}(h:dS σ ρ H0 f)(s:g.Sublist f):dS σ ρ H0 g:=⟨h.1.sublist s,fun a ha=>h.2 a (s.subset ha)⟩
theorem MS.RK{xs rows:List Dm.Dp}{m0:Nat}(nx:MS j σs ρs H0s Hs σ ρ H0 H (.t xs))(gF:xs[m0]?=some (.l rows)) :
  ∃(A L:Addr) (us vs:List V),σ[j]?=some (some (.ref A))/\H A=some (.tup us)/\us[m0]?=some (.ref L)/\H L=some (.lst vs)/\MS j σs ρs H0s Hs σ ρ H0 (upd H L (.lst [])) (.t (xs.set m0 (.l []))):=by
 obtain⟨v,fp,q1,q2,q3⟩:=nx.ex;cases q2 with
 |t nA hA rs=>
  rename_i A us;obtain⟨v',f',c1,c2,c3,c5⟩:=rs.mL q3.1 gF;cases c2 with
  |l nL hL rl=>
   rename_i L vs fl;obtain⟨z1,z2⟩:=q3.2 L (c3.subset Sw);have neA:A≠L:=fun y=>by rw[y,hL]at hA;cases hA
   have t:=nx.wr nL z1 z2 (.lst []);obtain⟨fp',w1,w2⟩:=c5 L (.lst []) (.l []) vs [L] Sw hL (.l nL ao .nil) (Vr.cons_cons _ (VX _));exact⟨A,L,us,vs,q1,hA,c1,hL,t.st,t.stp,t.own,t.fx,_,fp',q1,.t nA (by rw[aq neA];exact hA) w1,q3.sub w2⟩
theorem MS.RL{xs rows items:List Dm.Dp}{m0 m:Nat}(nx:MS j σs ρs H0s Hs σ ρ H0 H (.t xs))(gF:xs[m0]?=some (.l rows))(hi:rows[m]?=some (.l items)) :
  ∃(A L q:Addr) (us vs ls:List V),σ[j]?=some (some (.ref A))/\H A=some (.tup us)/\us[m0]?=some (.ref L)/\H L=some (.lst vs)/\vs[m]?=some (.ref q)/\H q=some (.lst ls)/\L≠q/\A≠q /\
   MS j σs ρs H0s Hs σ ρ H0 (upd H q (.lst [])) (.t (xs.set m0 (.l (rows.set m (.l []))))):=by
 obtain⟨v,fp,q1,q2,q3⟩:=nx.ex;cases q2 with
 |t nA hA rs=>
  rename_i A us;obtain⟨v',f',c1,c2,c3,c5⟩:=rs.mL q3.1 gF;cases c2 with
  |l nL hL rl=>
   rename_i L vs fl;have nd:=q3.1.sublist c3;obtain⟨v2,f2,d1,d2,d3,d5⟩:=rl.mL (SV.mp nd).2 hi;cases d2 with
   |l nq hq rq=>
    rename_i q ls fq;have qm:q∈fl:=d3.subset Sw;obtain⟨z1,z2⟩:=q3.2 q (c3.subset (Sy L qm));have neL:L≠q:=fun y=>(SV.mp nd).1 (y▸qm);have neA:A≠q:=fun y=>by rw[y,hq]at hA;cases hA
    have t:=nx.wr nq z1 z2 (.lst []);obtain⟨fl',w1,w2⟩:=d5 q (.lst []) (.l []) ls [q] Sw hq (.l nq ao .nil) (Vr.cons_cons _ (VX _));obtain⟨fp',y1,y2⟩:=c5 q (.lst []) (.l (rows.set m (.l []))) ls (L::fl') (Sy L qm) hq (.l nL (by rw[aq neL];exact hL) w1) (w2.cons_cons _);exact⟨A,L,q,us,vs,ls,q1,hA,c1,hL,d1,hq,neL,neA,t.st,t.stp,t.own,t.fx,_,fp',q1,.t nA (by rw[aq neA];exact hA) y1,q3.sub y2⟩
theorem Ma{K:gc}{z:Nat}(hcz:cz=(z:Int))(h:tDC j (Dm.x8 z) D σ H):jJ (KG K "list" xq (tOp (AI K) (fT j) (tC (.int cz)))) D σ H:=by
 subst hcz;obtain⟨σs,ρs,H0s,Hs,H0,ρ,p,o,n,e,k⟩:=h;unfold Dm.x8 at e;split at e
 case h_2=>cases e
 rename_i xs;split at e
 case h_2=>cases e
 rename_i rows gF;cases e;obtain⟨A,L,us,vs,q1,q2,q3,q4,q5⟩:=n.RK gF;exact⟨_,q1,A,us,(z:Int),.ref L,rfl,rfl,.of q2,x9 q3,.inl ⟨rfl,vs,.inl (.inl q4)⟩,L,vs,rfl,rfl,q4,k σ H0 _ q5 (ak.refl _)⟩
noncomputable def bQ(rs:List (List Dm.Dat))(q:Nat):List Dm.Dp:=(rs.take q).map (fun _=>Dm.Dp.l [])++(rs.drop q).map (fun r=>Dm.Dp.l (r.map Dm.Dp.s))
theorem x_(h:q<rs.length):(bQ rs q)[q]?=some (.l (rs[q].map .s)):=by unfold bQ;rw[Tc (by simp;omega),Ss,TJ,Nat.min_eq_left (US h),Vs,TX h];rfl
theorem uV(h:q<rs.length):(bQ rs q).set q (.l [])=bQ rs (q+1):=by
 unfold bQ;have l:((rs.take q).map (fun _=>Dm.Dp.l [])).length=q:=by rw[Ss,TJ,Nat.min_eq_left (US h)]
 rw[Uw _ _ (by rw[l];exact SA _),l,Vs,TX h,List.take_succ_eq_append_getElem h,S0,Uy,Sq,List.set_cons_zero];rfl
theorem HJ{K:gc}{z i:Nat}(hcz:cz=(z:Int))(hil:i<σ.length)(h:tDC j (Dm.n_ j z i) D σ H) :
  BZ (mW K (tOp (AI K) (fT j) (tC (.int cz)))) (cH i) (jJ (KG K "list" xq (fT i))) D σ H:=by
 subst hcz;obtain⟨σs,ρs,H0s,Hs,H0,ρ,p,o,n,e,k⟩:=h;unfold Dm.n_ at e;split at e
 ·cases e
 rename_i hij;have hi0:i≠0:=fun z=>hij (.inl z);have hnj:i≠j:=fun z=>hij (.inr z);split at e
 case h_2=>cases e
 rename_i xs;split at e
 case h_2=>cases e
 rename_i rows gF;split at e
 case h_2=>cases e
 rename_i rs hrs;cases e;have er:=uU hrs;obtain⟨A,L,us,vs,k1,k2,k3,k4,k5⟩:=n.list gF;have hzx:z<xs.length:=(Su.mp gF).1;have Fd:vs.length=rs.length:=by rw[k5,er,Ss]
 refine⟨_,k1,A,us,(z:Int),.ref L,rfl,rfl,.of k2,x9 k3,L,rfl,⟨vs,.inl (.inl k4)⟩,?_⟩;have g0:bQ rs 0=rows:=by unfold bQ;rw[List.take_zero,List.drop_zero,er];rfl
 have n0:MS j σs ρs H0s Hs σ (ρ.set i .un) H0 H (.t (xs.set z (.l (bQ rs 0)))):=by
  rw[g0];have:xs.set z (.l rows)=xs:=by obtain⟨hh,hx⟩:=Su.mp gF;rw[<- hx,List.set_getElem_self]
  rw[this];exact n.bind (n.st.mask i) (fun a q=>LO q) rfl rfl
 refine ⟨fun q m σ' H'=>MS j σs ρs H0s Hs σ' (ρ.set i .un) H0 H' (.t (xs.set z (.l (bQ rs q))))∧m=rs.length-q∧q≤rs.length∧σ'[j]?=some (some (.ref A))∧H' A=some (.tup us)∧H' L=some (.lst vs)∧i<σ'.length,
  ⟨rs.length,n0,by simp,S6 _,k1,k2,k4,hil⟩,?_⟩
 rintro q m σ' H' ⟨nq,rfl,hq,a1,a2,a3,a4⟩;have sq:SqL K H' L vs:=.inl (.inl a3);by_cases HY:q<rs.length
 ·have hv:q<vs.length:=by omega
  refine .inr ⟨⟨vs,vs[q],sq,by simp[hv]⟩,fun σ' H'=>MS j σs ρs H0s Hs σ' (ρ.set i .un) H0 H' (.t (xs.set z (.l (bQ rs (q+1)))))/\σ'[j]?=some (some (.ref A))/\H' A=some (.tup us)/\H' L=some (.lst vs)/\i<σ'.length,?_,fun x H2 y=>?_⟩
  ·rintro σ2 H2 ⟨h1,h2,h3,h4,h5⟩;exact⟨rs.length-(q+1),by omega,h1,rfl,HY,h2,h3,h4,h5⟩
  ·obtain⟨rfl,y2⟩:=y;have yx:=y2 vs sq;have s1:=nq.st.nS i (some x);have e2:(ρ.set i Dm.Cell.un).set i .un=ρ.set i .un:=VT _;rw[e2]at s1;have n1:MS j σs ρs H0s Hs (σ'.set i (some x)) (ρ.set i .un) H0 H2 (.t (xs.set z (.l (bQ rs q)))):=nq.bind s1.1 s1.2 (eg hnj) (eg hi0);obtain⟨A',L',b,us',vs',ls,w1,w2,w3,w4,w5,w6,w8,w9,nn⟩:=n1.RL (m0:=z) (SR hzx) (x_ HY);rw[eg hnj,a1]at w1;cases w1;rw[a2]at w2;cases w2;rw[k3]at w3;cases w3;rw[a3]at w4;cases w4;rw[yx]at w5;cases w5;refine⟨_,SR a4,.inl ⟨rfl,ls,.inl (.inl w6)⟩,b,ls,rfl,rfl,w6,?_⟩;rw[VT,uV HY]at nn;exact⟨nn,(eg hnj).trans a1,by rw[aq w9];exact a2,by rw[aq w8];exact a3,by rw[Td];exact a4⟩
 ·have e':q=rs.length:=by omega
  subst e';refine .inl ⟨⟨vs,sq,by omega⟩,?_⟩;have:bQ rs rs.length=rs.map fun _=>Dm.Dp.l []:=by unfold bQ;rw[List.take_length,Up];simp
  rw[this]at nq;exact k σ' H0 H' nq (ak.refl _)
end
end
def tDQ(j:Nat)(g:Dm.FQ):TS:=fun D σ H=>∃σs ρs H0s Hs H0 ρ p q,MS j σs ρs H0s Hs σ ρ H0 H p/\g ρ p=some q/\∀σ' ρ' v H0' H' fp,SSt σs ρs H0s Hs σ' ρ' H0' H'->bF (nR σs ρs Hs) H0' H' v q fp->fp.Nodup->(∀a∈fp,H0' a=none)->D.rt v H'
def RM(N:Addr->Prop)(H0 H:Hp)(σ:L2.St)(j:Nat)(p:Dm.Dp)(b:Bool)(vs:List V)(ps:List Dm.Dp):Prop:=
 ∀v fp,σ[j]?=some (some v)->bF N H0 H v p fp->∃fq,aG N H0 H vs ps fq/\(b=true->fq=[])/\fq.Sublist fp
def tPu(j:Nat)(b:Bool)(ts:List Dm.PU):TA:=fun σ H Q=>∃σs ρs H0s Hs H0 ρ p ps,MS j σs ρs H0s Hs σ ρ H0 H p/\Dm.fF j ρ p b ts=some ps/\∀vs H',aD H0 H H0 H'->RM (fun a=>Hs a=none) H0 H' σ j p b vs ps->Q vs H'
section
variable{D:Ends}{σ:L2.St}{H:Hp}{j:Nat}{b:Bool}{Q:List V->Hp->Prop}
theorem Pf(h:tPu j b [] σ H Q):kI σ H Q:=by obtain⟨σs,ρs,H0s,Hs,H0,ρ,p,ps,n,e,k⟩:=h;unfold Dm.fF at e;cases e;exact k [] H (aD.refl n.st.same) fun v fp _ _=>⟨[],.nil,fun _=>rfl,VX _⟩
theorem Pg{f:Dm.FE}{ts:List Dm.PU}(h:tPu j b (.e f::ts) σ H Q):eG (tD f) (tPu j b ts) σ H Q:=by
 obtain⟨σs,ρs,H0s,Hs,H0,ρ,p,ps,n,e,k⟩:=h;unfold Dm.fF at e;split at e
 case h_2=>cases e
 rename_i d ρ1 e1;split at e
 ·cases e
 rename_i nb;split at e
 ·cases e
 rename_i ps' e2;cases e;refine⟨_,_,_,ρ1,n.see,e1,fun v H1 Hb t1 r1=>?_⟩;have g1:=n.seen t1;have rp:Rep H0 v d:=Rep.plain r1 (by simpa using nb);exact ⟨σs,ρs,H0s,Hs,H0,ρ,p,ps',n.grow g1,e2,fun vs H' g ok=>k (v::vs) H' (g1.trans g) fun u fp h1 h2=>by obtain⟨fq,q1,q2,q3⟩:=ok u fp h1 h2;exact⟨[]++fq,.cons (.s rp) q1,q2,q3⟩⟩
theorem Ph{i:Nat}{ts:List Dm.PU}(h:tPu j b (.v i::ts) σ H Q):eG (fT i) (tPu j b ts) σ H Q:=by
 obtain⟨σs,ρs,H0s,Hs,H0,ρ,p,ps,n,e,k⟩:=h;unfold Dm.fF at e;split at e
 ·cases e
 split at e
 case h_2=>cases e
 rename_i d hd;split at e
 ·cases e
 rename_i ps' e2;cases e;obtain⟨v,hv,rp⟩:=n.st.sh i d hd;exact ⟨v,hv,σs,ρs,H0s,Hs,H0,ρ,p,ps',n,e2,fun vs H' g ok=>k (v::vs) H' g fun u fp h1 h2=>by obtain⟨fq,q1,q2,q3⟩:=ok u fp h1 h2;exact⟨[]++fq,.cons (.s rp) q1,q2,q3⟩⟩
theorem Pj{ts:List Dm.PU}(h:tPu j b (.w::ts) σ H Q):eG (fT j) (tPu j true ts) σ H Q:=by
 obtain⟨σs,ρs,H0s,Hs,H0,ρ,p,ps,n,e,k⟩:=h;unfold Dm.fF at e;split at e
 ·cases e
 rename_i hb;split at e
 ·cases e
 rename_i ps' e2;cases e;obtain⟨v,_,hv,_,_⟩:=n.ex;exact ⟨v,hv,σs,ρs,H0s,Hs,H0,ρ,p,ps',n,e2,fun vs H' g ok=>k (v::vs) H' g fun u fp h1 h2=>by rw[hv]at h1;cases h1;obtain⟨fq,q1,q2,q3⟩:=ok v fp hv h2;have e0:=q2 rfl;subst e0;exact⟨fp++[],.cons h2 q1,fun z=>absurd z hb,by rw[Tu];exact Vr.refl _⟩⟩
theorem Mb{ts:List Dm.PU}(h:tDQ j (Dm.Bm j ts) D σ H):Au (Gp (tPu j false ts)) D σ H:=by
 obtain⟨σs,ρs,H0s,Hs,H0,ρ,p,q,n,e,k⟩:=h;unfold Dm.Bm at e;split at e
 ·cases e
 rename_i ps e3;split at e
 case isFalse=>cases e
 rename_i hz;cases e;refine⟨σs,ρs,H0s,Hs,H0,ρ,p,ps,n,e3,fun vs H' g ok=>?_⟩;have n1:=n.grow g;obtain⟨v',fp',h1,h2,h3⟩:=n1.ex;obtain⟨fq,q1,_,q2⟩:=ok v' fp' h1 h2;refine⟨by rw[q1.length];exact S8 hz (by decide),fun T hT=>?_⟩;have n2:=n1.grow (aD.gb (o:=.tup vs) n1.st.same hT);have neT:∀{a:Addr} {o:HO},H' a=some o->a≠T:=fun {a o} q z=>by rw[z,hT]at q;cases q
 refine k _ _ _ _ _ fq n2.sst (.t (.inl (n1.stp.gone hT)) ao (q1.mono (ak.refl _) (fun a z=>.inl z) (fun a us' _ q=>by rw[aq (neT q)];exact q) fun a ha=>?_)) (h3.1.sublist q2) fun a ha=>(h3.2 a (q2.subset ha)).1;obtain⟨_,zs,hz'⟩:=q1.fpN a ha;exact aq (neT hz')
theorem Mc{c:Dm.FC}{g:Dm.FQ}(h:tDQ j (Dm.Bl c g) D σ H):fU (tDC j c) (tDQ j g) D σ H:=by
 obtain⟨σs,ρs,H0s,Hs,H0,ρ,p,q,n,e,k⟩:=h;unfold Dm.Bl at e;split at e
 case h_2=>cases e
 rename_i ρ1 p1 e1;exact⟨σs,ρs,H0s,Hs,H0,ρ,p,.nx ρ1 p1,n,e1,fun σ' H0' H' n' _=>⟨σs,ρs,H0s,Hs,H0',ρ1,p1,q,n',e,k⟩⟩
theorem Me{K:gc}{f:List Dm.Dat->Option Dm.Dp}{fs:List Dm.FE}{z:Nat}{cz:Int}(hcz:cz=(z:Int)){g:Dm.FQ}{E:XK}(hj:j<σ.length)(h:tDP (Dm.Bk j f fs z g) D σ H) :
  fU (jK (tOp (AI K) (jN (spP f) [] E (tDA fs)) (tC (.int cz))) (cH j)) (tDQ j g) D σ H:=by
 subst hcz;obtain⟨H0,ρ,o,st,e,k⟩:=h;unfold Dm.Bk at e;split at e
 ·cases e
 rename_i hj0;split at e
 ·cases e
 rename_i xs ρ1 e1;split at e
 ·cases e
 rename_i ds ρ2 e2;split at e
 case h_2=>cases e
 rename_i ys ep;split at e
 case h_2=>cases e
 rename_i p hp;refine⟨H0,ρ,xs,ρ1,st,e1,fun vs H1 Hb t1 r1=>?_⟩;dsimp only;rw[Tu];obtain⟨H2,t2,b2,r2⟩:=takes t1 (ak.refl _) r1 e2;refine⟨H2,ds,.t ys,t2.st.same,r2,ep,fun v H3 Hd fp g3 r3 nd n3=>?_⟩;cases r3 with
 |t nA hA rs=>rename_i A us;obtain⟨u,f,hu,ru,hf⟩:=rs.L1 hp;refine⟨A,us,(z:Int),u,rfl,rfl,.of hA,x9 hu,?_⟩;have t3:=t2.trans (.grow t2.st g3);obtain⟨s1,s2⟩:=t3.st.nS j (some u);refine⟨σ,ρ,H0,H,H3,_,p,o,⟨s1,t3.stp,fun a z=>.inl (t3.own a (s2 a z)),eg hj0,u,f,SR hj,ru.mono (ak.refl _) (fun a n=>t2.stp.gone n) (fun _ _ _ h=>h) fun _ _=>rfl,nd.sublist hf,fun a ha=>⟨n3 a (hf.subset ha),fun z=>?_⟩⟩,e,k⟩;exact t2.st.bh (ru.fpN a ha).1 (s2 a z)
end
section
variable{X:Cx}{e:Expr}{es:List Expr}{f:Dm.FE}{ts:List Dm.PU}{pos:Pos}{j:Nat}{b:Bool}
noncomputable abbrev DHs(X:Cx)(j:Nat)(st:List Stmt)(g:Dm.FQ):Prop:=PSs X st (tDQ j g)
theorem RN:PA X [] (tPu j b []):=PA.weak dM fun _ _ _=>Pf
theorem Pk(he:DE X e f)(r:PA X es (tPu j b ts))(hs:starEach (e::es) X.env=(false,eval e X.env)::starEach es X.env:=by rfl):PA X (e::es) (tPu j b (.e f::ts)):=PA.weak (b4 he r hs) fun _ _ _=>Pg
theorem RO(i:Nat){x:Str}{px:Pos}(r:PA X es (tPu j b ts))(hi:X.N[i]?=some x:=by rfl)(hv:Vis X.env.scope x:=by trivial)(hd:(x == ("__debug__" : Str))=false:=by decide)(PJ:(x == ("__classdict__" : Str))=false:=by decide)
  (hs:starEach (.Name x px::es) X.env=(false,eval (.Name x px) X.env)::starEach es X.env:=by rfl):PA X (.Name x px::es) (tPu j b (.v i::ts)):=PA.weak (b4 (bL hi hv hd PJ) r hs) fun _ _ _=>Ph
theorem RP{x:Str}{px:Pos}(r:PA X es (tPu j true ts))(hi:X.N[j]?=some x:=by rfl)(hv:Vis X.env.scope x:=by trivial)(hd:(x == ("__debug__" : Str))=false:=by decide)(PJ:(x == ("__classdict__" : Str))=false:=by decide)
  (hs:starEach (.Name x px::es) X.env=(false,eval (.Name x px) X.env)::starEach es X.env:=by rfl):PA X (.Name x px::es) (tPu j b (.w::ts)):=PA.weak (b4 (bL hi hv hd PJ) r hs) fun _ _ _=>Pj
theorem Pn{x1}{tp:Pos}(ht:PA X es (tPu j false ts)):DHs X j [.Return (some (.Tuple es x1 tp)) pos] (Dm.Bm j ts):=cQ (PS.weak (mV (w_ ht)) fun _ _ _=>Mb)
theorem h_c{st:Stmt}{uX:List Stmt}{c:Dm.FC}{g:Dm.FQ}(h:DC X j st c)(hr:DHs X j uX g):DHs X j (st::uX) (Dm.Bl c g):=PSs.weak (aY h hr) fun _ _ _=>Mc
theorem Po(j z:Nat){k:Nat}{F:Addr}{fd:FuncData}{ps:List Str}{g:List Dm.Dat->Option Dm.Dp}{x y:Str}{as:List Dm.FE}{p pos' cpos ip sp:Pos}{jc}{cz:Int}{uX:List Stmt}{gq:Dm.FQ}(hN:X.N.Nodup)(G:aP X.prog X.w X.K X.mg X.base CX0 k F fd ps (spP g))(hr:bq k X.A)(hg:Gl X x)(hm:X.mg x=some (.ref F))(hk:TY X.K (.ref F)=true)(hb:Binds X.K fd ps [])
  (ha:DA X (e::es) as) (hre:DHs X j uX gq) (hcz:cz=(z:Int):=by rfl) (hi:X.N[j]?=some y:=by rfl) (hx:Loc X.env.scope y:=by trivial) (RQ:fh (.Constant (.int cz) jc ip):=by intro _ _;rfl)
  (hs:swapsWith (.Subscript (.Call (.Name x p) (e::es) [] cpos) (.Constant (.int cz) jc ip) sp) (some (.Name y pos')) pos.line X.env=pure false:=by rfl)
  (hf:X.fn y=true\/X.env.scope.names.lookup y=some .local:=by trivial) (RS:(x == ("__debug__" : Str))=false:=by decide) (he:starEach (e::es) X.env=(false,eval e X.env)::starEach es X.env:=by rfl) (HL:(backTo cpos (starEach es X.env)).any (·.1)=false:=by rfl) :
  DQs X (.Assign [.Name y pos'] (.Subscript (.Call (.Name x p) (e::es) [] cpos) (.Constant (.int cz) jc ip) sp) pos::uX) (Dm.Bk j g as z gq):=by
 have h:=aY (kH hN hi hx (qG m7 (dY G hr hg hm hk hb .nil (lG (X:=X)) ha RS he HL) mT RQ (pos:=sp)) hs hf) hre;intro uW s σ H D I q;exact h uW s σ H D I (Me hcz (by rw[I.len];exact(Su.mp hi).1) q)
theorem Pp(z:Nat){x:Str}{px sp ap cp ip:Pos}{cz:Int}{jc}(hcz:cz=(z:Int):=by rfl)(hi:X.N[j]?=some x:=by rfl)(hv:Vis X.env.scope x:=by trivial)(hd:(x == ("__debug__" : Str))=false:=by decide)
  (PJ:(x == ("__classdict__" : Str))=false:=by decide) (HL:fh (.Constant (.int cz) jc ip):=by intro _ _;rfl) (Mg:attributeBase (.Subscript (.Name x px) (.Constant (.int cz) jc ip) sp) "clear" X.env (eval (.Subscript (.Name x px) (.Constant (.int cz) jc ip) sp) X.env)=eval (.Subscript (.Name x px) (.Constant (.int cz) jc ip) sp) X.env:=by rfl)
  (Ih:(ap.endLine == cp.line)=true:=by rfl) (hsw:swapsWith (.Call (.Attribute (.Subscript (.Name x px) (.Constant (.int cz) jc ip) sp) "clear" ap) [] [] cp) none pos.line X.env=pure false:=by rfl) :
  DC X j (.Expr (.Call (.Attribute (.Subscript (.Name x px) (.Constant (.int cz) jc ip) sp) "clear" ap) [] [] cp) pos) (Dm.x8 z):=
 PS.weak (dX (Ca T5 PySem.F.slot_list_clear PySem.F.type_list_clear uc (qG m7 (bL hi hv hd PJ) mT HL) Mg Ih) hsw) fun _ _ _=>Ma hcz
theorem Mf(z i:Nat){cz:Int}{x y:Str}{py px ip sp py2 ap cp ep:Pos}{jc}(hN:X.N.Nodup)(hp:PassesOwn (model X.prog X.w) X.A X.env X.xe)(hc:X.calm=true)(hcz:cz=(z:Int):=by rfl)
  (hi:X.N[i]?=some y:=by rfl) (hj:X.N[j]?=some x:=by rfl) (hy:Loc X.env.scope y:=by trivial) (hvy:Vis X.env.scope y:=by trivial) (hvx:Vis X.env.scope x:=by trivial)
  (hdy:(y == ("__debug__" : Str))=false:=by decide) (hcy:(y == ("__classdict__" : Str))=false:=by decide) (hdx:(x == ("__debug__" : Str))=false:=by decide) (hcx:(x == ("__classdict__" : Str))=false:=by decide)
  (HL:fh (.Constant (.int cz) jc ip):=by intro _ _;rfl)
  (hs:∀q,foldedSetIterable (.Subscript (.Name x px) (.Constant (.int cz) jc ip) sp) X.env q=pure q:=by intro _;rfl)
  (Mg:attributeBase (.Name y py2) "clear" X.env (eval (.Name y py2) X.env)=eval (.Name y py2) X.env:=by rfl)
  (Ih:(ap.endLine == cp.line)=true:=by rfl)
  (hsw:swapsWith (.Call (.Attribute (.Name y py2) "clear" ap) [] [] cp) none ep.line X.env=pure false:=by rfl)
  (hf:X.fn y=true\/X.env.scope.names.lookup y=some .local:=by trivial) :
  DC X j (.For (.Name y py) (.Subscript (.Name x px) (.Constant (.int cz) jc ip) sp) [.Expr (.Call (.Attribute (.Name y py2) "clear" ap) [] [] cp) ep] [] pos) (Dm.n_ j z i):=by
 have h:=rR hp hc (mE (tg:=.Name y py) (qG m7 (bL (pos:=px) hj hvx hdx hcx) mT HL (pos:=sp))) (mD hN hi hy) (cQ (dX (Ca T5 PySem.F.slot_list_clear PySem.F.type_list_clear uc (bL (pos:=py2) hi hvy hdy hcy) Mg Ih) hsw)) hs (pos:=pos);intro uW s σ H D I q;exact h uW s σ H D I (HJ hcz (by rw[I.len];exact(Su.mp hi).1) q)
end
end Br
namespace HT
open PySem PySem.Spec PyProof.Rows
section
open PySem.SeqAt
open PySem.AutoSeq1 (wpAny_loadPart')
open PySem.MeetsSeq PySem.MeetsSeq2 PySem.MeetsSeq3
variable{prog:Program}{w:World}{A:Around}{E:Value->Shared->Prop}{s:Shared}
theorem g7{t sl:Addr}{items:Array Value}{vl vu:Value}{lo hi:Option Int}{Q:Value->Shared->Prop}(ht:IsTup s.heap t items)(hs:s.heap.IsSliceOf sl vl vu .none)(pl:IsPart vl lo)(pu:IsPart vu hi)
  (hw:sIx items.size 0 lo=0/\sIx items.size items.size hi=items.size) (h:Q (.ref t) s):wpAny (model prog w) A (getItem (.ref t) (.ref sl)) Q E s:=by
 obtain⟨os,hos,hcs,hds⟩:=id hs;have hTs:s.TypeIs (.ref sl) "slice" := ⟨os,hos,hcs⟩
 unfold getItem
 try with_reducible refine wpAny_holding ?_
 first | refine wpAny_bind (wpAny_pure ?_) | skip
 refine wpAny_bind (wpAny_sequenceKey ht.typeIs (by decide) ?_);refine wpAny_bind (wpAny_callSpecial?_slot (name:=U8 "__getitem__") ht.typeIs TR
  (wpAny_call_entry TR ht.typeIs entry_tuple_getitem ?_ (args_tuple_getitem _ _)))
 show wpAny _ _ (Builtin.Tuple.tupleItemsOf (.ref t) >>= _) _ _ s;refine wpAny_bind (tupleItemsOf_ ht ?_);refine wpAny_bind (wpAny_typeOf hTs ?_);rw[if_pos (by decide)];refine wpAny_bind (eK hs pl pu ?_);have hyes:(((sIx items.size 0 lo:Nat):Int) == 0&&(1:Int) == 1&&(sIx items.size items.size hi-sIx items.size 0 lo) == items.size)=true:=by rw[hw.1,hw.2];simp
 show wpAny _ _ (if (((sIx items.size 0 lo:Nat):Int) == 0&&(1:Int) == 1&&(sIx items.size items.size hi-sIx items.size 0 lo) == items.size)=true then _ else _) _ _ s;rw[if_pos hyes];refine wpAny_bind (m:=Builtin.Tuple.tupleIsExact _) ?_;unfold Builtin.Tuple.tupleIsExact;refine wpAny_bind (wpAny_typeOf ht.typeIs (wpAny_pure ?_));rw[if_pos (by decide)];refine wpAny_bind (wpAny_rule ?_)
 first
  |exact wpAny_pure ⟨_,rfl,wpAny_pure h⟩
  |exact wpAny_bind (wpAny_pure (wpAny_pure ⟨_,rfl,wpAny_pure h⟩))
  |exact wpAny_bind (wpAny_pure ⟨_,rfl,wpAny_pure h⟩)
end
end HT
namespace Br
open PySem PySem.Spec PyProof.Rows L2
def Pq(K:gc):V->Option Int->Option Int->Hp->VK->Prop:=fun x lo hi H Q=>∃a xs,x=.ref a/\SqT K H a xs /\
 ((¬(HT.sIx xs.length 0 lo=0/\HT.sIx xs.length xs.length hi=xs.length)/\∀p,H p=none->Q (.ref p) (upd H p (.tup (m6 xs lo hi))))\/((HT.sIx xs.length 0 lo=0/\HT.sIx xs.length xs.length hi=xs.length)/\Q (.ref a) H))
theorem HK{X:Cx}:SlR X (Pq X.K):=by
 intro uW s σ H x v vl vu lo hi sl Q I rx hs pl pu h;obtain⟨a,xs,rfl,hx,⟨hw,q⟩ | ⟨hw,q⟩⟩:=h
 ·exact KA uW s σ H _ v vl vu lo hi sl Q I rx hs pl pu ⟨a,xs,rfl,hx,hw,q⟩
 ·cases rx;obtain⟨its,r,ht,hz⟩:=I.tuple hx;have Fd:its.toArray.size=xs.length:=by rw[SG];exact r.length.symm
  refine⟨"tuple",_,TR.lookup,ht.typeIs,?_⟩;exact HT.g7 ht hs pl pu (by rw[Fd];exact hw) ⟨.ref a,H,I,rfl,q⟩
theorem Bo{ds:List Dm.Dat}{l h:Option Int}(w:Dm.sIx ds.length 0 l=0/\Dm.sIx ds.length ds.length h=ds.length):Dm.cut ds l h=ds:=by unfold Dm.cut;rw[w.1,w.2];simp
section
variable{X:Cx}{e:Expr}{f:Dm.FE}{p2 pos:Pos}
theorem Pr{K:gc}{lo hi:Option Dm.FE}{σ:L2.St}{H:Hp}{Q:VK}(h:tD (Dm.kh f lo hi) σ H Q):tSl (Pq K) (tD f) (tOf lo) (tOf hi) σ H Q:=by
 obtain⟨H0,ρ,x,ρ',st,e,k⟩:=h;unfold Dm.kh at e;split at e
 ·cases e
 rename_i x1 ρ1 e1;split at e
 ·cases e
 rename_i l ρ2 e2;split at e
 ·cases e
 rename_i hh ρ3 e3;split at e
 ·rename_i ds p1;cases e;refine⟨H0,ρ,x1,ρ1,st,e1,fun v H1 Hb t1 r1=>?_⟩;refine mJ t1.st e2 fun H2 Hc t2=>?_;refine mJ t2.st e3 fun H3 Hd t3=>?_;have tt:=t1.trans (t2.trans t3);rcases (r1.mono (t2.trans t3)).look t3.st p1 with rp | ⟨_,_,z⟩
  ·cases rp with
   |tup qa ra=>
    rename_i a xs;refine⟨a,xs,rfl,SqT.of (t3.st.same _ _ qa),?_⟩;by_cases hw:Dm.sIx ds.length 0 l=0/\Dm.sIx ds.length ds.length hh=ds.length
    ·refine .inr ⟨?_,?_⟩
     ·rw[ra.length,kR _ _ _ (S6 _),kR _ _ _ (SA _)];exact hw
     ·refine k _ _ _ tt ?_;show Rep H3 (.ref a) (.tup (Dm.cut ds l hh));rw[Bo hw];exact .tup qa ra
    ·refine .inl ⟨?_,fun q hq=>?_⟩
     ·rw[ra.length,kR _ _ _ (S6 _),kR _ _ _ (SA _)];exact hw
     ·have g:=aD.Cs (o:=HO.tup (m6 xs l hh)) t3.st.same hq;exact k _ _ _ (tt.trans (.grow t3.st g)) (.tup ao ((qM ra l hh).mono g.s0))
  ·exact z.elim
 ·cases e
theorem DO{lo hi:Option Expr}{flo fhi:Option Dm.FE}(h:DE X e f)(hl:PO X lo (tOf flo))(hh:PO X hi (tOf fhi)):DE X (.Subscript e (.Slice lo hi none p2) pos) (Dm.kh f flo fhi):=PE.weak (t8 HK h hl hh) fun _ _ _=>Pr
end
end Br
namespace Dm
noncomputable def eFT(f:List Dat->Option Dp)(as:List FE):FE:=fun ρ=>match eAs as ρ with
 |none=>none
 |some (xs,ρ1)=>match pks ρ1 xs with
  |none=>none
  |some ds=>match f ds with
   |none=>none
   |some p=>if aI p=true then some (.val p.dat,ρ1) else none
end Dm
namespace Br
open PySem PySem.Spec PyProof.Rows L2
theorem Pu{σ:L2.St}{H:Hp}{Q:VK}{f:List Dm.Dat->Option Dm.Dp}{fs:List Dm.FE}{E:XK}(h:tD (Dm.eFT f fs) σ H Q):jN (spP f) [] E (tDA fs) σ H Q:=by
 obtain⟨H0,ρ,x,ρ',st,e,k⟩:=h;unfold Dm.eFT at e;split at e
 ·cases e
 rename_i xs ρ1 e1;split at e
 ·cases e
 rename_i ds e2;split at e
 ·cases e
 rename_i p ep;split at e
 case isFalse=>cases e
 rename_i lk;cases e;refine⟨H0,ρ,xs,_,st,e1,fun vs H1 Hb t1 r1=>?_⟩;dsimp only;rw[Tu];refine⟨bor H1 Hb (Look H σ ρ'),ds,p,gR t1.st.same,nU t1.st r1 e2,ep,fun v H3 Hd fp g3 r3 nd n3=>?_⟩;have up:ak Hb Hd:=g3.s1;have up4:ak H1 (cpy H H1 Hb H3 Hd):=eu;have ks:∀b us,H3 b=some (.tup us)->cpy H H1 Hb H3 Hd b=some (.tup us):=fun b us h=>by
  have hd:=g3.s3 _ _ h;rcases g3.s2 b _ h with z | z
  ·rw[gS t1.st.same z];exact hd
  ·have hH:=gR t1.st.same _ _ z;unfold bor at z;split at z
   ·rename_i o q;cases z;exact eu _ _ q
   ·rename_i q;split at z
    ·rename_i lk;rcases lk with lk | lk
     ·unfold cpy;rw[q];dsimp only;rw[if_neg (by rw[hH];simp),h];dsimp only;rw[if_pos lk]
     ·exact(t1.st.iD hH lk).elim
    ·cases z
 have st4:av (cpy H H1 Hb H3 Hd) Hd σ ρ':=by
  refine⟨fun b u e'=>?_,t1.st.len,fun i d h=>?_,fun i d h=>?_,t1.st.dis⟩
  ·rcases cM e' with y | ⟨_,y⟩ | ⟨_,y,_⟩
   ·exact up _ _ (t1.st.same _ _ y)
   ·exact y
   ·exact g3.s3 _ _ y
  ·obtain⟨u,z,y⟩:=t1.st.sh i d h;exact⟨u,z,y.mono up4⟩
  ·obtain⟨b,z,n0,y⟩:=t1.st.ow i d h;obtain⟨w,hw⟩:=y.some;refine⟨b,z,?_,y.mono up4 ((up _ _ hw).trans hw.symm)⟩;cases q:cpy H H1 Hb H3 Hd b with
   |none=>rfl
   |some u=>
    rcases cM q with y' | ⟨y',_⟩ | ⟨_,y',us',rfl⟩
    ·rw[n0]at y';cases y'
    ·rw[hw]at y';cases y'
    ·have:=g3.s3 _ _ y';rw[up _ _ hw]at this;cases this;exact(t1.st.iD hw ⟨i,d,h,z⟩).elim
 have stp:Stp (ai σ ρ) H0 H (cpy H H1 Hb H3 Hd) Hd:=by
  refine⟨t1.stp.s0.trans up4,fun b u e' no=>up _ _ (t1.stp.s1 b u e' no),fun b u e'=>?_,fun b u e'=>?_⟩
  ·rcases cM e' with y | ⟨y,_⟩ | ⟨y,_⟩
   ·exact t1.stp.s2 b u y
   ·exact .inl (t1.stp.gone y)
   ·exact .inl y
  ·obtain⟨o',q⟩:=t1.stp.s3 b u e';exact⟨o',up _ _ q⟩
 refine k _ _ Hd ⟨st4,stp,t1.own,fun i _=>trivial⟩ (r3.share (fun b us' n h=>?_) ks (fun b hb=>?_) lk)
 ·rw[gS t1.st.same n];exact h
 ·exact gS t1.st.same (r3.fpN b hb).1
section
variable{X:Cx}{e:Expr}{es:List Expr}{fs:List Dm.FE}{pos p:Pos}
theorem ki{k:Nat}{F:Addr}{fd:FuncData}{ps:List Str}{h:List Dm.Dat->Option Dm.Dp}{x:Str}(G:aP X.prog X.w X.K X.mg X.base CX0 k F fd ps (spP h))(hr:bq k X.A)(hg:Gl X x)(hm:X.mg x=some (.ref F))(hk:TY X.K (.ref F)=true)(hb:Binds X.K fd ps [])
  (ha:DA X (e::es) fs) (RS:(x == ("__debug__" : Str))=false:=by decide) (he:starEach (e::es) X.env=(false,eval e X.env)::starEach es X.env:=by rfl) (HL:(backTo pos (starEach es X.env)).any (·.1)=false:=by rfl) :
  DE X (.Call (.Name x p) (e::es) [] pos) (Dm.eFT h fs):=PE.weak (dY G hr hg hm hk hb .nil (lG (X:=X)) ha RS he HL) fun _ _ _=>Pu
end
end Br
namespace PySem
open Sem (wp)
end PySem
namespace Br
open PySem PySem.Spec PyProof.Rows L2
end Br
namespace Dm
section
variable{K:RV->Prop}{Q:Val->Env->Prop}{ρ:Env}{o p:Option Dat}{R:RV->Env->Prop}{N:Env->Prop}{B C:Env->Prop}{d:Dat}{i j:Int}{α:Type}{f:List Dat->Option RV}{vs:List Dat}{ks:List Int}{as:List FE}{ds:List Dat}{xs:List Dat}{a:FE}{X Y:Prop}{e:FE}{g:Dat->Option RV}{c:Bool}{ds0:List Dat}{body:FS}{v:RV}{t:FT}{ρ2 ρ3:Env}{n m:Nat}{s u:FS}{k:Int}{bd:FB}{it:FI}
def We(e:FE)(ρ:Env)(Q:Val->Env->Prop):Prop:=∃v ρ',e ρ=some (v,ρ')/\Q v ρ'
def Wt(t:FT)(ρ:Env)(Q:Bool->Env->Prop):Prop:=∃v ρ',t ρ=some (v,ρ')/\Q v ρ'
def Was(as:List FE)(ρ:Env)(Q:List Val->Env->Prop):Prop:=∃v ρ',eAs as ρ=some (v,ρ')/\Q v ρ'
def Wi(it:FI)(ρ:Env)(Q:List Dat->Env->Prop):Prop:=∃v ρ',it ρ=some (v,ρ')/\Q v ρ'
def KO(N:Env->Prop)(R:RV->Env->Prop)(B C:Env->Prop):Out->Prop
 |.nx ρ=>N ρ
 |.ret r ρ=>R r ρ
 |.bk ρ=>B ρ
 |.ct ρ=>C ρ
def Ws(s:FS)(ρ:Env)(N:Env->Prop)(R:RV->Env->Prop)(B C:Env->Prop):Prop:=∃o,s ρ=some o/\KO N R B C o
def Wr(o:Option RV)(P:RV->Prop):Prop:=∃r,o=some r/\P r
def Wif(c:Bool)(X Y:Prop):Prop:=(c=true->X)/\(c=false->Y)
def Wg1(g:Dat->Option RV)(o:Option Dat)(K:RV->Prop):Prop:=∃d v,o=some d/\g d=some v/\K v
def Wg2(g:Dat->Dat->Option RV)(o p:Option Dat)(K:RV->Prop):Prop:=∃d e v,o=some d/\p=some e/\g d e=some v/\K v
def WB(g:List Dat->Option RV)(o:Option (List Dat))(K:RV->Prop):Prop:=∃ds v,o=some ds/\g ds=some v/\K v
def WT(o:Option (List Dat×Env))(K:List Dat->Env->Prop):Prop:=∃ds ρ,o=some (ds,ρ)/\ds.length<=SZ/\K ds ρ
def WF(f:List Dat->Option RV)(ρ:Env)(xs:List Val)(Q:Val->Env->Prop):Prop:=∃ds v,pks ρ xs=some ds/\f ds=some v/\(if dg v.dat then ∃ds' ρ2,tks ρ xs=some (ds',ρ2)/\Q v.bD ρ2 else Q v.bD ρ)
def Wk(ρ:Env)(x:Val)(K:Dat->Env->Prop):Prop:=∃d ρ',tk ρ x=some (d,ρ')/\K d ρ'
def Wp(o:Option FE)(ρ:Env)(K:Option Int->Env->Prop):Prop:=∃i ρ',part o ρ=some (i,ρ')/\K i ρ'
theorem W5(x:X):Wif true X Y:=⟨fun _=>x,fun h=>by cases h⟩
theorem WK(y:Y):Wif false X Y:=⟨fun h=>(by cases h),fun _=>y⟩
theorem Xv(h:c=true)(x:X):Wif c X Y:=⟨fun _=>x,fun h'=>by rw[h]at h';cases h'⟩
theorem WY(h:c=false)(y:Y):Wif c X Y:=⟨fun h'=>(by rw[h]at h';cases h'),fun _=>y⟩
theorem Xc{p:Prop}[Decidable p](x:p->X)(y:¬p->Y):Wif (decide p) X Y:=⟨fun h=>x (of_decide_eq_true h),fun h=>y (of_decide_eq_false h)⟩
theorem S_{i:Nat}(h:ρ[i]?=some (.sh d))(q:Q (.val d) ρ):We (eV i) ρ Q:=⟨_,_,by unfold eV;rw[h],q⟩
theorem WU{i:Nat}(h:ρ[i]?=some (.ow d))(q:Q (.slot i) ρ):We (eV i) ρ Q:=⟨_,_,by unfold eV;rw[h],q⟩
theorem V_(q:Q (.val d) ρ):We (eC d) ρ Q:=⟨_,_,rfl,q⟩
theorem W8(h:We a ρ fun x ρ1=>Wg1 g (pk ρ1 x) fun v=>Q v.bD ρ1):We (e1 g a) ρ Q:=by obtain⟨x,ρ1,h1,d,v,h2,h3,q⟩:=h;exact⟨_,_,by unfold Dm.e1;rw[h1];dsimp only;rw[h2];dsimp only;rw[h3],q⟩
theorem T_{g:Dat->Dat->Option RV}{a b:FE}(h:We a ρ fun x ρ1=>We b ρ1 fun y ρ2=>Wg2 g (pk ρ2 x) (pk ρ2 y) fun v=>Q v.bD ρ2):We (e2 g a b) ρ Q:=by obtain⟨x,ρ1,h1,y,ρ2,h2,d,e,v,h3,h4,h5,q⟩:=h;exact⟨_,_,by unfold Dm.e2;rw[h1];dsimp only;rw[h2];dsimp only;rw[h3];dsimp only;rw[h4];dsimp only;rw[h5],q⟩
theorem U_{Q:List Val->Env->Prop}(q:Q [] ρ):Was [] ρ Q:=⟨_,_,rfl,q⟩
theorem m_{r:List FE}{Q:List Val->Env->Prop}(h:We a ρ fun x ρ1=>Was r ρ1 fun xs ρ2=>Q (x::xs) ρ2):Was (a::r) ρ Q:=by obtain⟨x,ρ1,h1,xs,ρ2,h2,q⟩:=h;exact⟨_,_,by unfold eAs;rw[h1];dsimp only;rw[h2],q⟩
theorem WM{g:List Dat->Option RV}(h:Was as ρ fun xs ρ1=>WB g (pks ρ1 xs) fun v=>Q v.bD ρ1):We (eB g as) ρ Q:=by obtain⟨x,ρ1,h1,d,v,h2,h3,q⟩:=h;exact⟨_,_,by unfold eB;rw[h1];dsimp only;rw[h2];dsimp only;rw[h3],q⟩
theorem Xy(h:Was as ρ fun xs ρ1=>WT (tks ρ1 xs) fun ds ρ2=>Q (.val (.tup ds)) ρ2):We (iw as) ρ Q:=by obtain⟨x,ρ1,h1,ds,ρ2,h2,h3,q⟩:=h;exact⟨_,_,by unfold iw;rw[h1];dsimp only;rw[h2];dsimp only;rw[if_pos h3],q⟩
theorem Xg(h:Was as ρ fun xs ρ1=>WT (tks ρ1 xs) fun ds ρ2=>Q (.new (.lst ds)) ρ2):We (f7 as) ρ Q:=by obtain⟨x,ρ1,h1,ds,ρ2,h2,h3,q⟩:=h;exact⟨_,_,by unfold f7;rw[h1];dsimp only;rw[h2];dsimp only;rw[if_pos h3],q⟩
theorem WZ{xs:List Val}{K:List Dat->Env->Prop}(k:K ds ρ3)(h:tks ρ xs=some (ds,ρ2))(hn:ρ2=ρ3)(hl:ds.length<=SZ):WT (tks ρ xs) K:=⟨_,_,hn▸h,hl,k⟩
theorem WE(h:Was as ρ fun xs ρ1=>WF f ρ1 xs Q):We (eF f as) ρ Q:=by
 obtain⟨x,ρ1,h1,ds,v,h2,h3,h4⟩:=h;by_cases hb:dg v.dat=true
 ·rw[if_pos hb]at h4;obtain⟨ds',ρ2,h5,q⟩:=h4;exact⟨_,_,by unfold eF;rw[h1];dsimp only;rw[h2];dsimp only;rw[h3];dsimp only;rw[if_pos hb,h5],q⟩
 ·rw[if_neg hb]at h4;exact⟨_,_,by unfold eF;rw[h1];dsimp only;rw[h2];dsimp only;rw[h3];dsimp only;rw[if_neg hb],h4⟩
theorem WS{ρ ρ2 ρ3:Env}{xs:List Val}{ds ds':List Dat}(h2:f ds=some v)(q:Q v.bD ρ3)(h1:pks ρ xs=some ds)(h3:dg v.dat=true)(h4:tks ρ xs=some (ds',ρ2))(hn:ρ2=ρ3):WF f ρ xs Q:=
 ⟨_,_,h1,h2,by rw[if_pos h3];exact⟨_,_,h4,hn▸q⟩⟩
theorem Wz{xs:List Val}(h2:f ds=some v)(q:Q v.bD ρ)(h1:pks ρ xs=some ds)(h3:dg v.dat=false):WF f ρ xs Q:=
 ⟨_,_,h1,h2,by rw[if_neg (by rw[h3];decide)];exact q⟩
theorem Ys{a b:FE}(h:Wt t ρ fun c ρ1=>Wif c (We a ρ1 Q) (We b ρ1 Q)):We (eIf t a b) ρ Q:=by
 obtain⟨c,ρ1,h1,h2,h3⟩:=h;cases c with
 |true=>obtain⟨v,ρ2,h4,q⟩:=h2 rfl;exact⟨_,_,by unfold eIf;rw[h1];exact h4,q⟩
 |false=>obtain⟨v,ρ2,h4,q⟩:=h3 rfl;exact⟨_,_,by unfold eIf;rw[h1];exact h4,q⟩
def Wb(v:Val)(K:Bool->Prop):Prop:=∃c,v=.val (.bl c)/\K c
theorem Wx{K:Bool->Prop}(k:K c):Wb (.val (.bl c)) K:=⟨c,rfl,k⟩
theorem W9{a b:FE}(h:We a ρ fun v ρ1=>Wb v fun c=>Wif c (We b ρ1 Q) (Q (.val (.bl false)) ρ1)):We (eO a b) ρ Q:=by
 obtain⟨v,ρ1,h1,c,rfl,h2,h3⟩:=h;cases c with
 |true=>obtain⟨v,ρ2,h4,q⟩:=h2 rfl;exact⟨_,_,by unfold eO;rw[h1];exact h4,q⟩
 |false=>exact⟨_,_,by unfold eO;rw[h1],h3 rfl⟩
theorem X_(h:We a ρ fun v ρ1=>Wb v fun c=>Q (.val (.bl (!c))) ρ1):We (xu a) ρ Q:=by obtain⟨v,ρ1,h1,c,rfl,h2⟩:=h;exact⟨_,_,by unfold xu;rw[h1],h2⟩
theorem WD{Q:Bool->Env->Prop}(h:We a ρ fun v ρ1=>Wb v fun c=>Q c ρ1):Wt (tV a) ρ Q:=by obtain⟨v,ρ1,h1,c,rfl,h2⟩:=h;exact⟨_,_,by unfold tV;rw[h1],h2⟩
theorem WW{Q:Bool->Env->Prop}(h:Wt t ρ fun c ρ1=>Q (!c) ρ1):Wt (b8 t) ρ Q:=by obtain⟨v,ρ1,h1,h2⟩:=h;exact⟨_,_,by unfold b8;rw[h1],h2⟩
theorem Yd{t u:FT}{Q:Bool->Env->Prop}(h:Wt t ρ fun c ρ1=>Wif c (Wt u ρ1 Q) (Q false ρ1)):Wt (mU t u) ρ Q:=by
 obtain⟨c,ρ1,h1,h2,h3⟩:=h;cases c with
 |true=>obtain⟨v,ρ2,h4,q⟩:=h2 rfl;exact⟨_,_,by unfold mU;rw[h1];exact h4,q⟩
 |false=>exact⟨_,_,by unfold mU;rw[h1],h3 rfl⟩
theorem W6{t u:FT}{Q:Bool->Env->Prop}(h:Wt t ρ fun c ρ1=>Wif c (Q true ρ1) (Wt u ρ1 Q)):Wt (tOr t u) ρ Q:=by
 obtain⟨c,ρ1,h1,h2,h3⟩:=h;cases c with
 |false=>obtain⟨v,ρ2,h4,q⟩:=h3 rfl;exact⟨_,_,by unfold tOr;rw[h1];exact h4,q⟩
 |true=>exact⟨_,_,by unfold tOr;rw[h1],h2 rfl⟩
theorem Y7{Q:Bool->Env->Prop}(h:We a ρ fun x ρ1=>∃d c,pk ρ1 x=some d/\truth d=some c/\Q c ρ1):Wt (tTr a) ρ Q:=by obtain⟨x,ρ1,h1,d,c,h2,h3,q⟩:=h;exact⟨_,_,by unfold tTr;rw[h1];dsimp only;rw[h2];dsimp only;rw[h3],q⟩
theorem Yn{Q:Bool->Env->Prop}(q:Q true ρ):Wt dZ ρ Q:=⟨_,_,rfl,q⟩
theorem WJ{K:Dat->Env->Prop}(k:K d ρ):Wk ρ (.val d) K:=⟨_,_,rfl,k⟩
theorem Xo{K:Dat->Env->Prop}(k:K d ρ):Wk ρ (.new d) K:=⟨_,_,rfl,k⟩
noncomputable def DQ:Dat->Option (List Dat)
 |.lst ds=>some ds
 |.tup ds=>some ds
 |_=>none
theorem Xx{Q:List Dat->Env->Prop}(h:We a ρ fun x ρ1=>Wk ρ1 x fun d ρ2=>∃ds,DQ d=some ds/\Q ds ρ2):Wi (iS a) ρ Q:=by
 obtain⟨x,ρ1,h1,d,ρ2,h2,ds,hd,q⟩:=h;cases d with
 |lst xs=>cases hd;exact⟨_,_,by unfold iS;rw[h1];dsimp only;rw[h2],q⟩
 |tup xs=>cases hd;exact⟨_,_,by unfold iS;rw[h1];dsimp only;rw[h2],q⟩
 |_=>cases hd
def dW(v:Val)(K:Int->Prop):Prop:=∃i,v=.val (.int i)/\K i
theorem dW.mk{i:Int}{K:Int->Prop}(k:K i):dW (.val (.int i)) K:=⟨i,rfl,k⟩
theorem Xw{Q:List Dat->Env->Prop}(h:We a ρ fun v ρ1=>dW v fun j=>Q (ups 0 j.toNat) ρ1/\j<=BIG/\-BIG<=j):Wi (iR1 a) ρ Q:=by obtain⟨v,ρ1,h1,j,rfl,q,h2⟩:=h;exact⟨_,_,by unfold iR1;rw[h1];dsimp only;rw[if_pos h2],q⟩
theorem Y3{a b:FE}{Q:List Dat->Env->Prop}(h:We a ρ fun v ρ1=>dW v fun i=>We b ρ1 fun w ρ2=>dW w fun j=>Q (ups i (j-i).toNat) ρ2/\j<=BIG/\-BIG<=j/\i<=BIG/\-BIG<=i):Wi (iR2 a b) ρ Q:=by obtain⟨v,ρ1,h1,i,rfl,w,ρ2,h2,j,rfl,q,h3⟩:=h;exact⟨_,_,by unfold iR2;rw[h1];dsimp only;rw[h2];dsimp only;rw[if_pos h3],q⟩
theorem YI{Q:List Dat->Env->Prop}(h:We a ρ fun x ρ1=>Wk ρ1 x fun d ρ2=>∃ds,d=.lst ds/\Q ds.reverse ρ2):Wi (AZ a) ρ Q:=by obtain⟨x,ρ1,h1,d,ρ2,h2,ds,rfl,q⟩:=h;exact⟨_,_,by unfold AZ;rw[h1];dsimp only;rw[h2],q⟩
theorem YT{Q:List Dat->Env->Prop}(h:We a ρ fun x ρ1=>Wk ρ1 x fun d ρ2=>∃ds,d=.lst ds/\Q (j7 0 ds) ρ2):Wi (iEn a) ρ Q:=by obtain⟨x,ρ1,h1,d,ρ2,h2,ds,rfl,q⟩:=h;exact⟨_,_,by unfold iEn;rw[h1];dsimp only;rw[h2],q⟩
theorem Wp.none{K:Option Int->Env->Prop}(k:K none ρ):Wp none ρ K:=⟨_,_,rfl,k⟩
theorem Wp.some{f:FE}{K:Option Int->Env->Prop}(h:We f ρ fun v ρ1=>dW v fun i=>K (some i) ρ1):Wp (some f) ρ K:=by obtain⟨v,ρ1,h1,i,rfl,k⟩:=h;exact⟨_,_,by unfold part;dsimp only;rw[h1],k⟩
def Wsl(o:Option Dat)(l h:Option Int)(K:Dat->Prop):Prop:=∃xs,o=some (.lst xs)/\K (.lst (cut xs l h))
noncomputable def DR{α:Type}(xs:List α)(lo hi:Option Int):List α:=(xs.drop (sIx xs.length 0 lo)).take (sIx xs.length xs.length hi-sIx xs.length 0 lo)
theorem Pw(DV:α->Dat)(xs:List α)(lo hi:Option Int):cut (xs.map DV) lo hi=(DR xs lo hi).map DV:=by unfold cut DR;rw[Ss,<- List.map_drop,<- List.map_take]
theorem Wsl.A{DV:α->Dat}{xs:List α}{o:Option Dat}{l h:Option Int}{K:Dat->Prop}(k:K (.lst ((DR xs l h).map DV)))(ho:o=some (.lst (xs.map DV))):Wsl o l h K:=⟨_,ho,by rw[Pw];exact k⟩
theorem Yv{lo hi:Option FE}(h:We a ρ fun x ρ1=>Wp lo ρ1 fun l ρ2=>Wp hi ρ2 fun h ρ3=>Wsl (pk ρ3 x) l h fun d=>Q (.new d) ρ3):We (eSl a lo hi) ρ Q:=by obtain⟨x,ρ1,h1,l,ρ2,h2,hh,ρ3,h3,xs,h4,q⟩:=h;exact⟨_,_,by unfold eSl;rw[h1];dsimp only;rw[h2];dsimp only;rw[h3];dsimp only;rw[h4],q⟩
theorem WO(n:N ρ):Ws sNx ρ N R B C:=⟨_,rfl,n⟩
theorem Wv(h:Ws s ρ (fun ρ1=>Ws u ρ1 N R B C) R B C):Ws (aC s u) ρ N R B C:=by
 obtain⟨o,h1,h2⟩:=h;cases o with
 |nx ρ1=>obtain⟨o,h3,h4⟩:=h2;exact⟨o,by unfold aC;rw[h1];exact h3,h4⟩
 |ret r ρ1=>exact⟨.ret r ρ1,by unfold aC;rw[h1],h2⟩
 |bk ρ1=>exact⟨.bk ρ1,by unfold aC;rw[h1],h2⟩
 |ct ρ1=>exact⟨.ct ρ1,by unfold aC;rw[h1],h2⟩
def WA(i:Nat)(v:Val)(ρ:Env)(N:Env->Prop):Prop:=match v with
 |.new d=>N (ρ.set i (.ow d))
 |x=>Wk ρ x fun d ρ2=>N (ρ2.set i (.sh d))
theorem WC{i:Nat}(h:We e ρ fun v ρ1=>WA i v ρ1 N)(hi:i≠0):Ws (sA i e) ρ N R B C:=by
 obtain⟨v,ρ1,h1,h2⟩:=h;cases v with
 |new d=>exact⟨.nx _,by unfold sA;rw[if_neg hi,h1],h2⟩
 |val d=>obtain⟨d',ρ2,h3,h4⟩:=h2;exact⟨.nx _,by unfold sA;rw[if_neg hi,h1];dsimp only;rw[h3],h4⟩
 |slot j=>obtain⟨d',ρ2,h3,h4⟩:=h2;exact⟨.nx _,by unfold sA;rw[if_neg hi,h1];dsimp only;rw[h3],h4⟩
theorem WQ{i:Nat}{ρ ρ2:Env}(n:N ρ2)(hs:ρ.set i (.ow d)=ρ2):WA i (.new d) ρ N:=by unfold WA;dsimp only;rw[hs];exact n
theorem Wy{i:Nat}{ρ ρ2:Env}(n:N ρ2)(hs:ρ.set i (.sh d)=ρ2):WA i (.val d) ρ N:=⟨_,_,rfl,by show N _;rw[hs];exact n⟩
theorem Xn(h:We e ρ fun _ ρ1=>N ρ1):Ws (sE e) ρ N R B C:=by obtain⟨x,ρ1,h1,n⟩:=h;exact⟨.nx _,by unfold sE;rw[h1],n⟩
def WR(v:Val)(ρ:Env)(R:RV->Env->Prop):Prop:=match v with
 |.new d=>R (.new d) ρ
 |.val d=>R (.val d) ρ
 |.slot i=>(∃d,ρ[i]?=some (.ow d)/\R (.new d) (ρ.set i .un))
theorem WN(h:We e ρ fun v ρ1=>WR v ρ1 R):Ws (sR e) ρ N R B C:=by
 obtain⟨v,ρ1,h1,h2⟩:=h;cases v with
 |new d=>exact⟨.ret _ _,by unfold sR;rw[h1],h2⟩
 |val d=>exact⟨.ret _ _,by unfold sR;rw[h1],h2⟩
 |slot i=>obtain⟨d,h3,h4⟩:=h2;exact⟨.ret _ _,by unfold sR;rw[h1];dsimp only;rw[h3],h4⟩
theorem YB(r:R (.new d) ρ):WR (.new d) ρ R:=r
theorem Ye(r:R (.val d) ρ):WR (.val d) ρ R:=r
theorem Xk{i:Nat}(r:R (.new d) (ρ.set i .un))(h:ρ[i]?=some (.ow d)):WR (.slot i) ρ R:=⟨d,h,r⟩
theorem WL{a b:FS}(h:Wt t ρ fun c ρ1=>Wif c (Ws a ρ1 N R B C) (Ws b ρ1 N R B C)):Ws (sIf t a b) ρ N R B C:=by
 obtain⟨c,ρ1,h1,h2,h3⟩:=h;cases c with
 |true=>obtain⟨o,h4,q⟩:=h2 rfl;exact⟨_,by unfold sIf;rw[h1];exact h4,q⟩
 |false=>obtain⟨o,h4,q⟩:=h3 rfl;exact⟨_,by unfold sIf;rw[h1];exact h4,q⟩
theorem Xq{i:Nat}(h:We e ρ fun x ρ1=>Wk ρ1 x fun d ρ2=>∃ds ρ3,ρ2[i]?=some (.ow (.lst ds))/\ρ2.set i (.ow (.lst (ds++[d])))=ρ3/\N ρ3/\ds.length<SZ)(h0:ρ[i]?=some (.ow (.lst ds0))):Ws (rX i e) ρ N R B C:=by obtain⟨x,ρ1,h1,d,ρ2,h2,ds,ρ3,h3,h5,n,h4⟩:=h;exact⟨.nx _,by unfold rX;rw[h0];dsimp only;rw[h1];dsimp only;rw[h2];dsimp only;rw[h3];dsimp only;rw[if_pos h4,h5],n⟩
theorem oh{i:Nat}(n:N ρ3)(h:ρ2[i]?=some (.ow (.lst ds)))(hs:ρ2.set i (.ow (.lst (ds++[d])))=ρ3)(hl:ds.length<SZ):∃ds ρ3,ρ2[i]?=some (.ow (.lst ds))/\ρ2.set i (.ow (.lst (ds++[d])))=ρ3/\N ρ3/\ds.length<SZ:=⟨_,_,h,hs,n,hl⟩
theorem Yg{i:Nat}{j e:FE}(h:We e ρ fun x ρ1=>Wk ρ1 x fun d ρ2=>(∃d0,ρ2[i]?=some (.ow d0))/\We j ρ2 fun y ρ3=>dW y fun k=>∃ds m ρ4,ρ3[i]?=some (.ow (.lst ds))/\ixN ds.length k=some m/\ρ3.set i (.ow (.lst (ds.set m d)))=ρ4/\N ρ4):Ws (xw i j e) ρ N R B C:=by obtain⟨x,ρ1,h1,d,ρ2,h2,⟨d0,h0⟩,y,ρ3,h3,k,rfl,ds,m,ρ4,h4,h5,h6,n⟩:=h;exact⟨.nx _,by unfold xw;rw[h1];dsimp only;rw[h2];dsimp only;rw[h0];dsimp only;rw[h3];dsimp only;rw[h4];dsimp only;rw[h5];dsimp only;rw[h6],n⟩
theorem XJ{i:Nat}{j e:FE}(h:We e ρ fun x ρ1=>Wk ρ1 x fun d ρ2=>(∃d0,ρ2[i]?=some (.ow d0))/\We j ρ2 fun y ρ3=>dW y fun k=>∃ks vs ρ4,ρ3[i]?=some (.ow (.dct ks vs))/\ρ3.set i (.ow (.dct (j8 ks k) (j9 ks vs k d)))=ρ4/\N ρ4/\ks.length<SZ):Ws (lT i j e) ρ N R B C:=by obtain⟨x,ρ1,h1,d,ρ2,h2,⟨d0,h0⟩,y,ρ3,h3,k,rfl,ks,vs,ρ4,h4,h5,n,h6⟩:=h;exact⟨.nx _,by unfold lT;rw[h1];dsimp only;rw[h2];dsimp only;rw[h0];dsimp only;rw[h3];dsimp only;rw[h4];dsimp only;rw[if_pos h6,h5],n⟩
theorem mO{i:Nat}{ρ3 ρ4:Env}(n:N ρ4)(h:ρ3[i]?=some (.ow (.dct ks vs)))(hs:ρ3.set i (.ow (.dct (j8 ks k) (j9 ks vs k d)))=ρ4)(hl:ks.length<SZ):∃ks vs ρ4,ρ3[i]?=some (.ow (.dct ks vs))/\ρ3.set i (.ow (.dct (j8 ks k) (j9 ks vs k d)))=ρ4/\N ρ4/\ks.length<SZ:=⟨_,_,_,h,hs,n,hl⟩
theorem W2(h:Wi it ρ fun ds ρ1=>Ws (kM bd body ds) ρ1 N R B C):Ws (gX it bd body) ρ N R B C:=by obtain⟨ds,ρ1,h1,o,h2,h3⟩:=h;exact⟨o,by unfold gX;rw[h1];exact h2,h3⟩
theorem W3(DV:α->Dat)(bd:FB)(body:FS)(xs:List α)(ρ:Env)(N:Env->Prop)(R:RV->Env->Prop)(B C:Env->Prop)(I:List α->List α->Env->Prop)
  (h0:I [] xs ρ) (hs:∀p x q ρ,xs=p++x::q->I p (x::q) ρ->∃ρ1,bd (DV x) ρ=some ρ1/\Ws body ρ1 (fun ρ2=>I (p++[x]) q ρ2) R N (fun ρ2=>I (p++[x]) q ρ2)) (he:∀ρ,I xs [] ρ->N ρ):Ws (kM bd body (xs.map DV)) ρ N R B C:=by
 have go:∀(q p:List α) (ρ:Env),xs=p++q->I p q ρ->Ws (kM bd body (q.map DV)) ρ N R B C:=fun q=>by
  induction q with
  |nil=>intro p ρ e i;rw[Tu]at e;exact⟨.nx _,rfl,he ρ (e▸i)⟩
  |cons x q ih=>
   intro p ρ e i;obtain⟨ρ1,h1,o,h2,h3⟩:=hs p x q ρ e i;have e':xs=(p++[x])++q:=by rw[Uy];exact e
   cases o with
   |nx ρ2=>obtain⟨o,h4,h5⟩:=ih _ _ e' h3;exact⟨o,by rw[Sq,kM,h1];dsimp only;rw[h2];exact h4,h5⟩
   |ct ρ2=>obtain⟨o,h4,h5⟩:=ih _ _ e' h3;exact⟨o,by rw[Sq,kM,h1];dsimp only;rw[h2];exact h4,h5⟩
   |bk ρ2=>exact⟨.nx _,by rw[Sq,kM,h1];dsimp only;rw[h2],h3⟩
   |ret r ρ2=>exact⟨.ret _ _,by rw[Sq,kM,h1];dsimp only;rw[h2],h3⟩
 exact go xs [] ρ rfl h0
theorem WG{P:RV->Prop}(b:Ws body ρ (fun _=>P (.val .non)) (fun r _=>P r) (fun _=>False) (fun _=>False))(hρ:ds.map Cell.sh++Sv m .un=ρ)(h:ds.length=n):Wr (fn n m body ds) P:=by
 obtain⟨o,h1,h2⟩:=b;cases o with
 |nx ρ1=>exact⟨_,by unfold Dm.fn;rw[if_pos h,hρ,h1],h2⟩
 |ret r ρ1=>exact⟨_,by unfold Dm.fn;rw[if_pos h,hρ,h1],h2⟩
 |bk ρ1=>exact h2.elim
 |ct ρ1=>exact h2.elim
theorem WI{o:Option RV}{r:RV}(h:Wr o fun x=>x=r):o=some r:=by obtain⟨x,h1,rfl⟩:=h;exact h1
theorem DU(DV:α->Dat)(p:α->Bool)(v:α->Dat)(bd:FB)(t:FT)(el:FE)(mk:Cell->Env)(hb:∀d c,bd d (mk c)=some (mk (.sh d))):∀(xs:List α) (c:Cell) (En:List Dat),
  (∀x∈xs,t (mk (.sh (DV x)))=some (p x,mk (.sh (DV x))))->(∀x∈xs,p x=true->We el (mk (.sh (DV x))) fun w ρ'=>Wk ρ' w fun d ρ''=>d=v x/\ρ''=mk (.sh (DV x))) ->
  ∃c',d7 bd t el (xs.map DV) (mk c) En=some (En++(xs.filter p).map v,mk c')
 |[],c,En,_,_=>⟨c,by simp[d7]⟩
 |x::xs,c,En,ht,he=>by
  rw[Sq,d7,hb];dsimp only;rw[ht x Sw];have ht':=fun y hy=>ht y (Sy _ hy);have he':=fun y hy=>he y (Sy _ hy);by_cases h:p x=true
  ·obtain⟨w,ρ',h1,d,ρ'',h2,rfl,rfl⟩:=he x Sw h;rw[h];dsimp only;rw[h1];dsimp only;rw[h2];obtain⟨c',e⟩:=DU DV p v bd t el mk hb xs (.sh (DV x)) (En++[v x]) ht' he';exact⟨c',by dsimp only;rw[e,T7 h];simp⟩
  ·rw[Bool.not_eq_true]at h;rw[h];obtain⟨c',e⟩:=DU DV p v bd t el mk hb xs (.sh (DV x)) En ht' he';exact⟨c',by dsimp only;rw[e,T6 (by rw[h];decide)]⟩
theorem Yj(h:Wt t ρ fun c' ρ'=>c'=c/\ρ'=ρ):t ρ=some (c,ρ):=by obtain⟨_,_,h1,rfl,rfl⟩:=h;exact h1
theorem XZ(DV:α->Dat)(xs:List α)(p:α->Bool)(v:α->Dat){it:FI}{k:Nat}{t:FT}{el:FE}{ρ ρ1:Env}{Q:Val->Env->Prop}
  (q:Q (.new (.lst ((xs.filter p).map v))) ρ1) (Mu:it ρ=some (xs.map DV,ρ1)) (hk:ρ1.length=k) (hk0:k≠0) (hl:xs.length<=SZ)
  (ht:∀x∈xs,Wt t (ρ1++[.sh (DV x)]) fun c ρ'=>c=p x/\ρ'=ρ1++[.sh (DV x)])
  (he:∀x∈xs,p x=true->We el (ρ1++[.sh (DV x)]) fun w ρ'=>Wk ρ' w fun d ρ''=>d=v x/\ρ''=ρ1++[.sh (DV x)]):We (cC it 1 (bN k) t el) ρ Q:=by
 have bd:∀(d:Dat) (c:Cell),bN k d (ρ1++[c])=some (ρ1++[.sh d]):=fun d c=>by unfold bN;rw[if_neg hk0,Uw _ _ (by omega)];simp[hk]
 obtain⟨c',e⟩:=DU DV p v (bN k) t el (fun c=>ρ1++[c]) bd xs .un [] (fun x hx=>Yj (ht x hx)) he;refine⟨_,_,?_,q⟩;unfold cC;rw[Mu];dsimp only;rw[if_pos (by rw[Ss];exact hl)];show (match d7 _ _ _ _ (ρ1++[.un]) [] with | none=>none | some (ys,ρ2)=>some (Val.new (.lst ys),ρ2.take ρ1.length))=_;rw[e];dsimp only;rw[Vp,V9]
theorem X4(DV:α->Dat)(xs:List α)(p:α->Bool)(v:α->Dat){i:Nat}{k:Nat}{t:FT}{el:FE}{ρ:Env}{Q:Val->Env->Prop}{d:Dat}
  (q:Q (.new (.lst ((xs.filter p).map v))) ρ) (hi:ρ[i]?=some (.sh d)) (hd:DQ d=some (xs.map DV)) (hk:ρ.length=k) (hk0:k≠0) (hl:xs.length<=SZ)
  (ht:∀x∈xs,Wt t (ρ++[.sh (DV x)]) fun c ρ'=>c=p x/\ρ'=ρ++[.sh (DV x)])
  (he:∀x∈xs,p x=true->We el (ρ++[.sh (DV x)]) fun w ρ'=>Wk ρ' w fun d ρ''=>d=v x/\ρ''=ρ++[.sh (DV x)]):We (bB i 1 (bN k) t el) ρ Q:=by
 have Mu:iS (eV i) ρ=some (xs.map DV,ρ):=by
  unfold iS eV;rw[hi];cases d with
  |lst ys=>cases hd;rfl
  |tup ys=>cases hd;rfl
  |_=>cases hd
 obtain⟨a,ρ',h1,h2⟩:=XZ DV xs p v (Q:=Q) q Mu hk hk0 hl ht he;refine⟨a,ρ',?_,h2⟩;unfold bB;rw[hi];exact h1
theorem XO{α β:Type}(DV:α->Dat)(xs:List α)(f:α->β)(iI:β->Dat){it:FI}{k:Nat}{el:FE}{ρ ρ1:Env}{Q:Val->Env->Prop}
  (q:Q (.new (.lst ((xs.map f).map iI))) ρ1) (Mu:it ρ=some (xs.map DV,ρ1)) (hk:ρ1.length=k) (hk0:k≠0) (hl:xs.length<=SZ)
  (he:∀x∈xs,We el (ρ1++[.sh (DV x)]) fun w ρ'=>Wk ρ' w fun d ρ''=>d=iI (f x)/\ρ''=ρ1++[.sh (DV x)]):We (cC it 1 (bN k) dZ el) ρ Q:=
 XZ DV xs (fun _=>true) (fun x=>iI (f x)) (by rw[U4.mpr (fun _ _=>rfl)];rw[TN]at q;exact q) Mu hk hk0 hl (fun _ _=>Yn ⟨rfl,rfl⟩) fun x hx _=>he x hx
theorem Xf{α β:Type}(DV:α->Dat)(xs:List α)(f:α->β)(iI:β->Dat){i:Nat}{k:Nat}{el:FE}{ρ:Env}{Q:Val->Env->Prop}{d:Dat}
  (q:Q (.new (.lst ((xs.map f).map iI))) ρ) (hi:ρ[i]?=some (.sh d)) (hd:DQ d=some (xs.map DV)) (hk:ρ.length=k) (hk0:k≠0) (hl:xs.length<=SZ)
  (he:∀x∈xs,We el (ρ++[.sh (DV x)]) fun w ρ'=>Wk ρ' w fun d ρ''=>d=iI (f x)/\ρ''=ρ++[.sh (DV x)]):We (bB i 1 (bN k) dZ el) ρ Q:=
 X4 DV xs (fun _=>true) (fun x=>iI (f x)) (by rw[U4.mpr (fun _ _=>rfl)];rw[TN]at q;exact q) hi hd hk hk0 hl (fun _ _=>Yn ⟨rfl,rfl⟩) fun x hx _=>he x hx
theorem Yr{α β:Type}(DV:α->Dat)(xs:List α)(p:α->Bool)(f:α->β)(iI:β->Dat){i:Nat}{k:Nat}{t:FT}{el:FE}{ρ:Env}{Q:Val->Env->Prop}{d:Dat}
  (q:Q (.new (.lst (((xs.filter p).map f).map iI))) ρ) (hi:ρ[i]?=some (.sh d)) (hd:DQ d=some (xs.map DV)) (hk:ρ.length=k) (hk0:k≠0) (hl:xs.length<=SZ)
  (ht:∀x∈xs,Wt t (ρ++[.sh (DV x)]) fun c ρ'=>c=p x/\ρ'=ρ++[.sh (DV x)])
  (he:∀x∈xs,p x=true->We el (ρ++[.sh (DV x)]) fun w ρ'=>Wk ρ' w fun d ρ''=>d=iI (f x)/\ρ''=ρ++[.sh (DV x)]):We (bB i 1 (bN k) t el) ρ Q:=
 X4 DV xs p (fun x=>iI (f x)) (by rw[TN]at q;exact q) hi hd hk hk0 hl ht he
theorem zA(i j:Int):gEq (.int i) (.int j)=vB (decide (i=j)):=by
 have:(i == j)=decide (i=j):=by by_cases h:i=j<;>simp[h]
 show vB (i == j)=_;rw[this]
theorem sU(i j:Int):gNe (.int i) (.int j)=vB (!decide (i=j)):=by
 have:(i == j)=decide (i=j):=by by_cases h:i=j<;>simp[h]
 show vB (!(i == j))=_;rw[this]
theorem W7(k:K (.val (.bl (decide (i=j)))))(ho:o=some (.int i))(hp:p=some (.int j)):Wg2 gEq o p K:=⟨_,_,_,ho,hp,zA i j,k⟩
theorem Xh(k:K (.val (.bl (!decide (i=j)))))(ho:o=some (.int i))(hp:p=some (.int j)):Wg2 gNe o p K:=⟨_,_,_,ho,hp,sU i j,k⟩
theorem X3{i j:Bool}(k:K (.val (.bl (!(i == j)))))(ho:o=some (.bl i))(hp:p=some (.bl j)):Wg2 gNe o p K:=⟨_,_,_,ho,hp,rfl,k⟩
theorem Xm(k:K (.val (.bl (decide (i<j)))))(ho:o=some (.int i))(hp:p=some (.int j)):Wg2 gLt o p K:=⟨_,_,_,ho,hp,rfl,k⟩
theorem YE(k:K (.val (.bl (decide (i<=j)))))(ho:o=some (.int i))(hp:p=some (.int j)):Wg2 gLe o p K:=⟨_,_,_,ho,hp,rfl,k⟩
theorem Xz(k:K (.val (.bl (decide (j<i)))))(ho:o=some (.int i))(hp:p=some (.int j)):Wg2 gGt o p K:=⟨_,_,_,ho,hp,rfl,k⟩
theorem XT(k:K (.val (.bl (decide (j<=i)))))(ho:o=some (.int i))(hp:p=some (.int j)):Wg2 gGe o p K:=⟨_,_,_,ho,hp,rfl,k⟩
theorem WH(k:K (.val (.int (i+j))))(ho:o=some (.int i))(hp:p=some (.int j)):Wg2 bw o p K:=⟨_,_,_,ho,hp,rfl,k⟩
theorem Yi{xs ys:List Dat}(k:K (.new (.lst (xs++ys))))(ho:o=some (.lst xs))(hp:p=some (.lst ys))(h:xs.length+ys.length<=SZ):Wg2 bw o p K:=⟨_,_,_,ho,hp,by unfold bw;dsimp only;rw[if_pos h],k⟩
theorem W_(k:K (.val (.int (i-j))))(ho:o=some (.int i))(hp:p=some (.int j)):Wg2 ir o p K:=⟨_,_,_,ho,hp,rfl,k⟩
theorem Xs(k:K (.val (.int (i*j))))(ho:o=some (.int i))(hp:p=some (.int j))(h:(-B64<i/\i<B64)\/(-B64<j/\j<B64)):Wg2 iy o p K:=⟨_,_,_,ho,hp,by unfold iy;dsimp only;rw[if_pos h],k⟩
theorem XG(k:K (.val (.int (i / j))))(ho:o=some (.int i))(hp:p=some (.int j))(h:0<j/\j<gY):Wg2 xx o p K:=⟨_,_,_,ho,hp,by unfold xx;dsimp only;rw[if_pos h],k⟩
theorem W4(k:K (.val (.int (i % j))))(ho:o=some (.int i))(hp:p=some (.int j))(h:0<j):Wg2 f9 o p K:=⟨_,_,_,ho,hp,by unfold f9;dsimp only;rw[if_pos h],k⟩
theorem Xl{i j z:Int}(k:K (.val (.int z)))(ho:o=some (.int i))(hp:p=some (.int j))(h:0<=j/\j<=1000000/\i.natAbs<1000000)(hz:i ^ j.toNat=z):Wg2 iz o p K:=⟨_,_,_,ho,hp,by unfold iz;dsimp only;rw[if_pos h,hz],k⟩
theorem Ww{d e:Dat}{v:Dat}(k:K (.val v))(ho:o=some d)(hp:p=some e)(h:gIx d e=some (.val v)):Wg2 gIx o p K:=⟨_,_,_,ho,hp,h,k⟩
theorem mP(DV:α->Dat)(xs:List α)(i:Int)(h0:0<=i)(h1:i<xs.length):atI (xs.map DV) i=some (DV (xs[i.toNat]'(by omega))):=by unfold atI ixN;rw[Ss,if_pos h0,if_pos h1];show (xs.map DV)[i.toNat]?=_;rw[SS,SK (by omega)];rfl
theorem XF{DV:α->Dat}{xs:List α}{i:Int}(h0:0<=i)(h1:i<xs.length)(k:K (.val (DV (xs[i.toNat]'(by omega)))))(ho:o=some (.lst (xs.map DV)))(hp:p=some (.int i)):Wg2 gIx o p K:=
 ⟨_,_,_,ho,hp,by unfold gIx;dsimp only;rw[mP DV xs i h0 h1];rfl,k⟩
theorem sV(i:Int)(xs:List Int):inD (.int i) (xs.map Dat.int)=decide (i∈xs):=by
 induction xs with
 |nil=>rfl
 |cons x xs ih=>
  have ih':(xs.map Dat.int).any (fun y=>eqD y (.int i))=decide (i∈xs):=ih;unfold inD;rw[Sq,Ux,ih'];show ((x == i)||_)=_;by_cases h:x=i
  ·simp[h]
  ·have h':¬i=x:=fun z=>h z.symm;simp[h,h']
theorem ya(xs:List Int):(xs.map Dat.int).all (okD 7)=true:=by rw[TM];intro d hd;obtain⟨x,_,rfl⟩:=SW.mp hd;rfl
theorem YK{i:Int}{xs:List Int}(k:K (.val (.bl (!decide (i∈xs)))))(ho:o=some (.int i))(hp:p=some (.lst (xs.map Dat.int))):Wg2 cZ o p K:=
 ⟨_,_,_,ho,hp,by unfold cZ;dsimp only;rw[show okD 8 (.int i)=true from rfl,ya,sV];rfl,k⟩
theorem XI{i:Int}{xs:List Int}(k:K (.val (.bl (decide (i∈xs)))))(ho:o=some (.int i))(hp:p=some (.tup (xs.map Dat.int))):Wg2 gIn o p K:=
 ⟨_,_,_,ho,hp,by unfold gIn;dsimp only;rw[show okD 8 (.int i)=true from rfl,ya,sV];rfl,k⟩
theorem Yk{i:Int}{xs:List Int}(k:K (.val (.bl (!decide (i∈xs)))))(ho:o=some (.int i))(hp:p=some (.tup (xs.map Dat.int))):Wg2 cZ o p K:=
 ⟨_,_,_,ho,hp,by unfold cZ;dsimp only;rw[show okD 8 (.int i)=true from rfl,ya,sV];rfl,k⟩
theorem Yh{i a b:Int}(k:K (.val (.bl (!decide (i=a\/i=b)))))(ho:o=some (.int i))(hp:p=some (.tup [.int a,.int b])):Wg2 cZ o p K:=
 Yk (xs:=[a,b]) (by have:(i∈[a,b])=(i=a\/i=b):=(by simp);simp only[this];exact k) ho hp
theorem XD{i:Int}(k:K (.val (.bl (bA ks vs i).isSome)))(ho:o=some (.int i))(hp:p=some (.dct ks vs)):Wg2 A1 o p K:=⟨_,_,_,ho,hp,rfl,k⟩
theorem XQ{i:Int}(k:K (.val (.bl (!(bA ks vs i).isSome))))(ho:o=some (.int i))(hp:p=some (.dct ks vs)):Wg2 qP o p K:=⟨_,_,_,ho,hp,rfl,k⟩
theorem Xd{i:Int}(h:bA ks vs i=some d)(k:K (.val d))(ho:o=some (.dct ks vs))(hp:p=some (.int i)):Wg2 gDx o p K:=⟨_,_,_,ho,hp,by unfold gDx;dsimp only;rw[h];rfl,k⟩
theorem YO{o:Option (List Dat)}(k:K (.val (.int xs.length)))(ho:o=some [.lst xs]):WB dN o K:=⟨_,_,ho,rfl,k⟩
theorem YW{o:Option (List Dat)}(k:K (.val (.int xs.length)))(ho:o=some [.tup xs]):WB dN o K:=⟨_,_,ho,rfl,k⟩
theorem Xi{o:Option (List Dat)}(k:K (.val (.int (if j<i then j else i))))(ho:o=some [.int i,.int j]):WB lO o K:=⟨_,_,ho,rfl,k⟩
theorem Xj{o:Option (List Dat)}(k:K (.val (.int (if j>i then j else i))))(ho:o=some [.int i,.int j]):WB lP o K:=⟨_,_,ho,rfl,k⟩
theorem XY{o:Option (List Dat)}(k:K (.new (.lst xs)))(ho:o=some [.lst xs]):WB qJ o K:=⟨_,_,ho,rfl,k⟩
theorem Yc{b:Bool}{o:Option (List Dat)}(k:K (.val (.int (b2i b))))(ho:o=some [.bl b]):WB mz o K:=⟨_,_,ho,rfl,k⟩
theorem XW{a b:Int}{o:Option (List Dat)}(k:K (.val (.int (a+b))))(ho:o=some [.tup [.int a,.int b]])(h:-1000000<=a/\a<=1000000/\-1000000<=b/\b<=1000000):WB qQ o K:=⟨_,_,ho,by unfold qQ;dsimp only;rw[if_pos h],k⟩
theorem W0{o:Option Dat}(k:K v)(ho:o=some d)(h:g d=some v):Wg1 g o K:=⟨_,_,ho,h,k⟩
theorem fG{Q:List Dat->Prop}(q:Q xs):∃ds,DQ (.lst xs)=some ds/\Q ds:=⟨_,rfl,q⟩
theorem ndT{p:Prop}[Decidable p](h:(!decide p)=true):¬p:=by intro z;rw[decide_eq_true z]at h;cases h
theorem ndF{p:Prop}[Decidable p](h:(!decide p)=false):p:=U7 fun z=>by rw[decide_eq_false z]at h;cases h
theorem PD(DV:α->Dat)(xs:List α)(h:∀x,okD 7 (DV x)=true):okD 8 (.lst (xs.map DV))=true:=by unfold okD;rw[TM];intro d hd;obtain⟨x,_,rfl⟩:=SW.mp hd;exact h x
theorem Xe{DV:α->Dat}{xs:List α}{o:Option (List Dat)}(k:K (.val (.int xs.length)))(ho:o=some [.lst (xs.map DV)]):WB dN o K:=⟨_,_,ho,by unfold dN;dsimp only;rw[Ss],k⟩
theorem Yy{s:FS}{N N':Env->Prop}(h:Ws s ρ N' R B C)(k:∀ρ',N' ρ'->N ρ'):Ws s ρ N R B C:=by
 obtain⟨o,h1,h2⟩:=h;cases o with
 |nx ρ1=>exact⟨.nx ρ1,h1,k _ h2⟩
 |ret r ρ1=>exact⟨.ret r ρ1,h1,h2⟩
 |bk ρ1=>exact⟨.bk ρ1,h1,h2⟩
 |ct ρ1=>exact⟨.ct ρ1,h1,h2⟩
theorem yb{i:Nat}{W:Prop}(h:ρ[i]?=some (.ow d))(w:W):(∃d0,ρ[i]?=some (.ow d0))/\W:=⟨⟨d,h⟩,w⟩
theorem X7(q:Q (.new (.dct [] [])) ρ):We eDn ρ Q:=⟨_,_,rfl,q⟩
theorem YX{a b:FE}(h:We a ρ fun v ρ1=>dW v fun i=>We b ρ1 fun x ρ2=>Wk ρ2 x fun d ρ3=>Q (.new (.dct [i] [d])) ρ3):We (eD1 a b) ρ Q:=by obtain⟨v,ρ1,h1,i,rfl,x,ρ2,h2,d,ρ3,h3,q⟩:=h;exact⟨_,_,by unfold eD1;rw[h1];dsimp only;rw[h2];dsimp only;rw[h3],q⟩
theorem cD{ρ ρ1 ρ2:Env}{W:Env->Prop}(h:bd d ρ=some ρ1)(hn:ρ1=ρ2)(w:W ρ2):∃ρ1,bd d ρ=some ρ1/\W ρ1:=⟨ρ1,h,hn▸w⟩
theorem DX(DV:α->Dat)(p:α->Bool)(v:α->Dat)(bd:FB)(t:FT)(el:FE)(e0:Env)(env:α->Env)(h0:∀x,bd (DV x) e0=some (env x))(h1:∀x y,bd (DV x) (env y)=some (env x)):∀(xs:List α) (En:List Dat) (e:Env),(e=e0\/∃y,e=env y) ->
  (∀x∈xs,t (env x)=some (p x,env x))->(∀x∈xs,p x=true->We el (env x) fun w ρ'=>Wk ρ' w fun d ρ''=>d=v x/\ρ''=env x) ->
  ∃e',(e'=e0\/∃y,e'=env y)/\d7 bd t el (xs.map DV) e En=some (En++(xs.filter p).map v,e')
 |[],En,e,he,_,_=>⟨e,he,by simp[d7]⟩
 |x::xs,En,e,he,ht,hel=>by
  have hb:bd (DV x) e=some (env x):=by
   rcases he with rfl | ⟨y,rfl⟩
   ·exact h0 x
   ·exact h1 x y
  rw[Sq,d7,hb];dsimp only;rw[ht x Sw];have ht':=fun y hy=>ht y (Sy _ hy);have he':=fun y hy=>hel y (Sy _ hy);by_cases h:p x=true
  ·obtain⟨w,ρ',g1,d,ρ'',g2,rfl,rfl⟩:=hel x Sw h;rw[h];dsimp only;rw[g1];dsimp only;rw[g2];obtain⟨e',q,z⟩:=DX DV p v bd t el e0 env h0 h1 xs (En++[v x]) _ (.inr ⟨x,rfl⟩) ht' he';exact⟨e',q,by dsimp only;rw[z,T7 h];simp⟩
  ·rw[Bool.not_eq_true]at h;rw[h];obtain⟨e',q,z⟩:=DX DV p v bd t el e0 env h0 h1 xs En _ (.inr ⟨x,rfl⟩) ht' he';exact⟨e',q,by dsimp only;rw[z,T6 (by rw[h];decide)]⟩
theorem Zd{α β:Type}(DV:α->Dat)(xs:List α)(p:α->Bool)(f:α->β)(iI:β->Dat)(env:α->Env){it:FI}{own:Nat}{bd:FB}{t:FT}{el:FE}{ρ ρ1:Env}{Q:Val->Env->Prop}
  (q:Q (.new (.lst (((xs.filter p).map f).map iI))) ρ1) (Mu:it ρ=some (xs.map DV,ρ1)) (h0:∀x,bd (DV x) (ρ1++Sv own .un)=some (env x)) (h1:∀x y,bd (DV x) (env y)=some (env x)) (h2:∀x,(env x).take ρ1.length=ρ1) (hl:xs.length<=SZ)
  (ht:∀x∈xs,Wt t (env x) fun c ρ'=>c=p x/\ρ'=env x)
  (he:∀x∈xs,p x=true->We el (env x) fun w ρ'=>Wk ρ' w fun d ρ''=>d=iI (f x)/\ρ''=env x):We (cC it own bd t el) ρ Q:=by
 obtain⟨e',q',e⟩:=DX DV p (fun x=>iI (f x)) bd t el _ env h0 h1 xs [] _ (.inl rfl) (fun x hx=>Yj (ht x hx)) he;refine⟨_,_,?_,q⟩;unfold cC;rw[Mu];dsimp only;rw[if_pos (by rw[Ss];exact hl),e];dsimp only;rw[Vp,TN];have:e'.take ρ1.length=ρ1:=by
  rcases q' with rfl | ⟨y,rfl⟩
  ·exact V9
  ·exact h2 y
 rw[this];rfl
theorem Ym{o:Option (List Dat)}(k:K (.val (.tup xs)))(ho:o=some [.lst xs]):WB ng o K:=⟨_,_,ho,rfl,k⟩
noncomputable def ltI(a b:Int):Bool:=decide (a<b)
theorem ic(ns:List Int):(cU ltI ns).Pairwise (fun a b=>ltI b a=false):=di (fun a b c h1 h2=>by simp[ltI]at *;omega) (fun a b h=>by simp[ltI]at *;omega) ns
theorem uY{l m:List Int}(h:l.Perm m)(hs:l.Pairwise (·<=·)):cU ltI m=l:=
 d8 (lt:=ltI) (fun a b h1 h2=>by simp[ltI]at *;omega) ((cK _ m).trans h.symm) (ic m) (hs.imp fun h=>by simp[ltI];omega)
theorem DY(N M:List Int):gNe (.lst (N.map Dat.int)) (.lst (M.map Dat.int))=vB (!decide (N=M)):=by
 have ok:∀ns:List Int,okD 8 (.lst (ns.map Dat.int))=true:=fun ns=>PD Dat.int ns fun _=>rfl;have eq:∀N M:List Int,jS (N.map Dat.int) (M.map Dat.int)=decide (N=M):=fun N=>by
  induction N with
  |nil=>intro M;cases M<;>rfl
  |cons n N ih=>
   intro M;cases M with
   |nil=>rfl
   |cons m M=>rw[Sq,Sq,jS,ih M];show ((n == m)&&_)=_;rw[V3];simp
 unfold gNe;rw[ok,ok];show vB (!jS _ _)=_;rw[eq]
theorem Yx{N M:List Int}(k:K (.val (.bl (!decide (N=M)))))(ho:o=some (.lst (N.map Dat.int)))(hp:p=some (.lst (M.map Dat.int))):Wg2 gNe o p K:=⟨_,_,_,ho,hp,DY N M,k⟩
theorem YN{i:Nat}(h:We e ρ fun x ρ1=>∃es ds ρ3,pk ρ1 x=some (.lst es)/\ρ1[i]?=some (.ow (.lst ds))/\ρ1.set i (.ow (.lst (ds++es)))=ρ3/\N ρ3/\ds.length+es.length<=SZ)(h0:ρ[i]?=some (.ow (.lst ds0))):Ws (A5 i e) ρ N R B C:=by obtain⟨x,ρ1,h1,es,ds,ρ3,h2,h3,h5,n,h4⟩:=h;exact⟨.nx _,by unfold A5;rw[h0];dsimp only;rw[h1];dsimp only;rw[h2];dsimp only;rw[h3];dsimp only;rw[if_pos h4,h5],n⟩
theorem XC{t:FT}{body:FS}{N:Env->Prop}{R:RV->Env->Prop}{B C:Env->Prop}(I:Nat->Env->Prop)
  (hs:∀k ρ,I k ρ->Wt t ρ fun c ρ1=>Wif c (Ws body ρ1 (fun ρ2=>∃k',k'<k/\I k' ρ2) R N (fun ρ2=>∃k',k'<k/\I k' ρ2)) (N ρ1)):∀(n k:Nat) (ρ:Env),k<n->I k ρ->Ws (whD t body n) ρ N R B C
 |0,k,_,h,_=>absurd h (Nat.not_lt_zero k)
 |n+1,k,ρ,h,i=>by
  obtain⟨c,ρ1,h1,h2,h3⟩:=hs k ρ i;cases c with
  |false=>exact⟨.nx _,by rw[whD,h1],h3 rfl⟩
  |true=>
   obtain⟨o,h4,h5⟩:=h2 rfl;cases o with
   |nx ρ2=>obtain⟨k',hk,i'⟩:=h5;obtain⟨o,h6,h7⟩:=XC (N:=N) (R:=R) (B:=B) (C:=C) I hs n k' ρ2 (by omega) i';exact⟨o,by rw[whD,h1];dsimp only;rw[h4];exact h6,h7⟩
   |ct ρ2=>obtain⟨k',hk,i'⟩:=h5;obtain⟨o,h6,h7⟩:=XC (N:=N) (R:=R) (B:=B) (C:=C) I hs n k' ρ2 (by omega) i';exact⟨o,by rw[whD,h1];dsimp only;rw[h4];exact h6,h7⟩
   |bk ρ2=>exact⟨.nx _,by rw[whD,h1];dsimp only;rw[h4],h5⟩
   |ret r ρ2=>exact⟨.ret _ _,by rw[whD,h1];dsimp only;rw[h4],h5⟩
theorem Bp(p:α->Bool)(xs:List α):bools (xs.map fun x=>Dat.bl (p x))=some (xs.map p):=by
 induction xs with
 |nil=>rfl
 |cons x xs ih=>rw[Sq,bools,ih];rfl
theorem Xr(p:α->Bool){xs:List α}{o:Option (List Dat)}(k:K (.val (.bl (xs.all p))))(ho:o=some [.lst (xs.map fun x=>Dat.bl (p x))]):WB rY o K:=⟨_,_,ho,by
 unfold rY;dsimp only;rw[Bp];have:(xs.map p).all id=xs.all p:=by rw[List.all_map];rfl
 dsimp only;rw[this],k⟩
theorem YY{a b:FE}(h:We a ρ fun x ρ1=>(∃ks vs,pk ρ1 x=some (.dct ks vs))/\We b ρ1 fun y ρ2=>∃ks vs i,pk ρ2 x=some (.dct ks vs)/\pk ρ2 y=some (.int i)/\Q (.val ((bA ks vs i).getD .non)) ρ2):We (lS a b) ρ Q:=by obtain⟨x,ρ1,h1,⟨ks,vs,h2⟩,y,ρ2,h3,ks',vs',i,h4,h5,q⟩:=h;exact⟨_,_,by unfold lS;rw[h1];dsimp only;rw[h2];dsimp only;rw[h3];dsimp only;rw[h4];dsimp only;rw[h5],q⟩
theorem Xu(k:K (.val (.bl (Dm.isN d))))(ho:o=some d)(hp:p=some .non):Wg2 sC o p K:=⟨_,_,_,ho,hp,by cases d<;>rfl,k⟩
theorem Zc{j:Int}{o:Option (List Dat)}(k:K (.new (.lst (ups 0 j.toNat))))(ho:o=some [.int j])(h:j<=1000000/\-1000000<=j):WB qN o K:=⟨_,_,ho,by unfold qN;dsimp only;rw[if_pos h],k⟩
theorem WX(J:Env->Prop)(h1:Ws s ρ J R B C)(h2:∀ρ',J ρ'->Ws u ρ' N R B C):Ws (aC s u) ρ N R B C:=Wv (Yy h1 h2)
def WrM(o:Option (RV×Dat))(P:RV->Dat->Prop):Prop:=∃z d,o=some (z,d)/\P z d
theorem Xp{r:List Dat}{P:RV->Dat->Prop}(b:Ws body ρ (fun ρ'=>∃d',ρ'[0]?=some (.ow d')/\P (.val .non) d') (fun z ρ'=>∃d',ρ'[0]?=some (.ow d')/\P z d') (fun _=>False) (fun _=>False))(hρ:Cell.ow d::(r.map Cell.sh++Sv m .un)=ρ)(h:(d::r).length=n):WrM (fnM n m body (d::r)) P:=by
 obtain⟨o,h1,h2⟩:=b;cases o with
 |nx ρ1=>obtain⟨d',h3,h4⟩:=h2;exact⟨_,_,by unfold fnM;rw[if_pos h];dsimp only;rw[hρ,h1];dsimp only;rw[h3],h4⟩
 |ret z ρ1=>obtain⟨d',h3,h4⟩:=h2;exact⟨_,_,by unfold fnM;rw[if_pos h];dsimp only;rw[hρ,h1];dsimp only;rw[h3],h4⟩
 |bk ρ1=>exact h2.elim
 |ct ρ1=>exact h2.elim
def WFm(f:List Dat->Option (RV×Dat))(j:Nat)(ρ1:Env)(xs:List Val)(Q:Val->Env->Prop):Prop:=
 ∃d1 ds ρ2 d v d',ρ1[j]?=some (.ow d1)/\tks ρ1 xs=some (ds,ρ2)/\ρ2[j]?=some (.ow d)/\f (d::ds)=some (v,d')/\(if (flat v.dat&&xH d')=true then Q v.bD (ρ1.set j (.ow d')) else Q v.bD (ρ2.set j (.ow d')))
theorem X5{f:List Dat->Option (RV×Dat)}{j:Nat}{d0:Dat}(h:Was as ρ fun xs ρ1=>WFm f j ρ1 xs Q)(h0:ρ[j]?=some (.ow d0)):We (eFm f j as) ρ Q:=by
 obtain⟨xs,ρ1,h1,d1,ds,ρ2,d,v,d',h2,h3,h4,h5,q⟩:=h;by_cases c:(flat v.dat&&xH d')=true
 ·rw[if_pos c]at q;exact⟨_,_,by unfold eFm;rw[h0];dsimp only;rw[h1];dsimp only;rw[h2];dsimp only;rw[h3];dsimp only;rw[h4];dsimp only;rw[h5];dsimp only;rw[if_pos c],q⟩
 ·rw[if_neg c]at q;exact⟨_,_,by unfold eFm;rw[h0];dsimp only;rw[h1];dsimp only;rw[h2];dsimp only;rw[h3];dsimp only;rw[h4];dsimp only;rw[h5];dsimp only;rw[if_neg c],q⟩
theorem XH{f:List Dat->Option (RV×Dat)}{j:Nat}{ρ1 ρ3:Env}{xs:List Val}{d d':Dat}(h5:f (d::ds)=some (v,d'))(q:Q v.bD ρ3)(h2:ρ1[j]?=some (.ow d))(h3:tks ρ1 xs=some (ds,ρ1))(hn:ρ1.set j (.ow d')=ρ3):WFm f j ρ1 xs Q:=
 ⟨_,_,_,_,_,_,h2,h3,h2,h5,by rw[hn];split<;>exact q⟩
theorem Yq(h:Was as ρ fun xs ρ1=>∃ds ρ2 v,xP ρ1 xs=some (ds,ρ2)/\f ds=some v/\bX v.dat=true/\Q v.bD ρ2):We (eFd f as) ρ Q:=by obtain⟨xs,ρ1,h1,ds,ρ2,v,h2,h3,h4,q⟩:=h;exact⟨_,_,by unfold eFd;rw[h1];dsimp only;rw[h2];dsimp only;rw[h3];dsimp only;rw[if_pos h4],q⟩
theorem lg:∀(xs:List Dat),(∀x∈xs,bX x=true)->gx xs=true
 |[],_=>by unfold gx;rfl
 |x::xs,h=>by unfold gx;rw[h x Sw,lg xs fun y hy=>h y (Sy _ hy)];rfl
theorem q_(DV:α->Dat)(xs:List α)(h:∀x,bX (DV x)=true):bX (.lst (xs.map DV))=true:=by unfold bX;exact lg _ fun d hd=>by obtain⟨x,_,rfl⟩:=SW.mp hd;exact h x
theorem Bq(i:Int):bX (.int i)=true:=by unfold bX;rfl
theorem Yw{o:Option (List Dat)}(k:K (.new (.dct ks vs)))(ho:o=some [.dct ks vs]):WB uE o K:=⟨_,_,ho,rfl,k⟩
theorem Y5{o:Option (List Dat)}(k:K (.new (.lst ((cU ltI ks).map Dat.int))))(ho:o=some [.dct ks vs])(h:ks.length<=63):WB kY o K:=⟨_,_,ho,by unfold kY;dsimp only;rw[if_pos h];rfl,k⟩
theorem Yo{i:Nat}{ρ ρ2:Env}(hl:bA ks vs k=some d)(q:Q (.val d) ρ2)(h:ρ[i]?=some (.ow (.dct ks vs)))(he:e ρ=some (.val (.int k),ρ))(hs:ρ.set i (.ow (.dct (fu ks vs k) (fy ks vs k)))=ρ2):We (lV i e) ρ Q:=⟨_,_,by unfold lV;rw[h];dsimp only;rw[he];dsimp only;rw[h];dsimp only;rw[hl];dsimp only;rw[hs],q⟩
theorem XS{ρ ρ1:Env}(h:Wi it ρ fun x y=>x=ds/\y=ρ1):it ρ=some (ds,ρ1):=by obtain⟨_,_,h1,rfl,rfl⟩:=h;exact h1
theorem Y0{a b c:FE}{i j k:Int}{Q:List Dat->Env->Prop}(ha:a ρ=some (.val (.int i),ρ))(hb:b ρ=some (.val (.int j),ρ))(hc:c ρ=some (.val (.int k),ρ))(hk:(0<k/\k<=1000)/\j<=BIG/\-BIG<=j/\i<=BIG/\-BIG<=i)(q:Q (iC i k (cL i j k)) ρ):Wi (iRs a b c) ρ Q:=⟨_,_,by unfold iRs;rw[ha];dsimp only;rw[hb];dsimp only;rw[hc];dsimp only;rw[if_pos hk],q⟩
theorem Yz{ρ ρ':Env}{v:Val}(h:We e ρ fun x y=>x=v/\y=ρ'):e ρ=some (v,ρ'):=by obtain⟨_,_,h1,rfl,rfl⟩:=h;exact h1
theorem Yu{f:List Dat->Option (RV×Dat)}{e0:FE}(h:Was (e0::as) ρ fun xs ρ1=>∃d ys ds v d',xs=.new d::ys/\kZ ys=some ds/\f (d::ds)=some (v,d')/\Q v.bD ρ1):We (eFn f e0 as) ρ Q:=by obtain⟨xs,ρ1,h1,d,ys,ds,v,d',rfl,h2,h3,q⟩:=h;refine⟨_,_,?_,q⟩;unfold eFn;rw[h1];dsimp only;rw[h2];dsimp only;rw[h3]
def Wm(g:FM)(ρ:Env)(p:Dp)(N:Env->Prop)(R:RV->Env->Prop)(B C:Env->Prop):Prop:=∃o,g ρ p=some o/\KO N R B C o
end
section
variable{N:Env->Prop}{R:RV->Env->Prop}{B C:Env->Prop}{ρ:Env}{p:Dp}
theorem X6{j:Nat}{t:FT}{fs:FS}{g:FM}{ρ':Env}(h:Wt t ρ' fun c _=>c=false)(k:Wm g ρ p N R B C)(e:see j ρ p=ρ'):Wm (mIf j t fs g) ρ p N R B C:=by obtain⟨c,ρ1,h1,rfl⟩:=h;obtain⟨o,h3,h4⟩:=k;exact⟨o,by unfold mIf;rw[e,h1];exact h3,h4⟩
theorem YM{gs:FS}(k:Ws gs ρ N R B C):Wm (A_ gs) ρ p N R B C:=k
end
def Wq(g:FSP)(ρ:Env)(P:Dp->Prop):Prop:=∃p,g ρ=some p/\P p
def Wp'(f:FP)(ρ:Env)(Q:Dp->Env->Prop):Prop:=∃p ρ',f ρ=some (p,ρ')/\Q p ρ'
def Wpa(fs:List FP)(ρ:Env)(Q:List Dp->Env->Prop):Prop:=∃p ρ',pAs fs ρ=some (p,ρ')/\Q p ρ'
section
variable{ρ:Env}{P:Dp->Prop}
section
variable{Q:Dp->Env->Prop}{g:FSP}
theorem X8{n m:Nat}{ds:List Dat}{ρ:Env}(h:Wq g ρ P)(hl:ds.length=n)(e:ds.map Cell.sh++Sv m .un=ρ):∃p,fnP n m g ds=some p/\P p:=by obtain⟨p,h1,h2⟩:=h;exact⟨p,by unfold fnP;rw[if_pos hl,e];exact h1,h2⟩
theorem Xa{s:FS}(h:Ws s ρ (fun ρ1=>Wq g ρ1 P) (fun _ _=>False) (fun _=>False) (fun _=>False)):Wq (fC s g) ρ P:=by
 obtain⟨o,h1,h2⟩:=h;cases o with
 |nx ρ1=>obtain⟨p,h3,h4⟩:=h2;exact⟨p,by unfold fC;rw[h1];exact h3,h4⟩
 |ret _ _=>exact h2.elim
 |bk _=>exact h2.elim
 |ct _=>exact h2.elim
theorem YA{f:FP}(h:Wp' f ρ fun p _=>P p):Wq (qR f) ρ P:=by obtain⟨p,ρ',h1,h2⟩:=h;exact⟨p,by unfold qR;rw[h1],h2⟩
theorem X0{f:FE}{d:Dat}(h:We f ρ fun v ρ1=>v=.val d/\Q (.s d) ρ1):Wp' (pO f) ρ Q:=by obtain⟨v,ρ1,h1,rfl,h2⟩:=h;exact⟨_,_,by unfold pO;rw[h1],h2⟩
theorem Wpa.nil{Q:List Dp->Env->Prop}(q:Q [] ρ):Wpa [] ρ Q:=⟨_,_,rfl,q⟩
theorem Wpa.cons{f:FP}{fs:List FP}{Q:List Dp->Env->Prop}(h:Wp' f ρ fun p ρ1=>Wpa fs ρ1 fun ps ρ2=>Q (p::ps) ρ2):Wpa (f::fs) ρ Q:=by obtain⟨x,ρ1,h1,xs,ρ2,h2,q⟩:=h;exact⟨_,_,by unfold pAs;rw[h1];dsimp only;rw[h2],q⟩
theorem YZ{fs:List FP}(h:Wpa fs ρ fun ps ρ1=>ps.length<=SZ/\Q (.t ps) ρ1):Wp' (pT fs) ρ Q:=by obtain⟨x,ρ1,h1,h2,q⟩:=h;exact⟨_,_,by unfold pT;rw[h1];dsimp only;rw[if_pos h2],q⟩
end
end
def KM(N:Env->Dp->Prop)(R:Dat->Env->Prop):OM->Prop
 |.nx ρ p=>N ρ p
 |.rt d ρ=>R d ρ
def Wc(g:FC)(ρ:Env)(p:Dp)(N:Env->Dp->Prop)(R:Dat->Env->Prop):Prop:=∃o,g ρ p=some o/\KM N R o
section
variable{N:Env->Dp->Prop}{R:Dat->Env->Prop}{ρ ρ':Env}{p:Dp}
theorem XR{s:FC}{g:FM}{N:Env->Prop}{R:RV->Env->Prop}{B C:Env->Prop}(h:Wc s ρ p (fun ρ1 p1=>Wm g ρ1 p1 N R B C) (fun d ρ1=>R (.val d) ρ1)):Wm (qu s g) ρ p N R B C:=by
 obtain⟨o,h1,h2⟩:=h;cases o with
 |nx ρ1 p1=>obtain⟨o,h3,h4⟩:=h2;exact⟨o,by unfold qu;rw[h1];exact h3,h4⟩
 |rt d ρ1=>exact⟨.ret (.val d) ρ1,by unfold qu;rw[h1],h2⟩
theorem YU(h:N ρ p):Wc cNx ρ p N R:=⟨_,rfl,h⟩
theorem YF{s u:FC}(h:Wc s ρ p (fun ρ1 p1=>Wc u ρ1 p1 N R) R):Wc (uI s u) ρ p N R:=by
 obtain⟨o,h1,h2⟩:=h;cases o with
 |nx ρ1 p1=>obtain⟨o,h3,h4⟩:=h2;exact⟨o,by unfold uI;rw[h1];exact h3,h4⟩
 |rt d ρ1=>exact⟨.rt d ρ1,by unfold uI;rw[h1],h2⟩
theorem Yt{j:Nat}{t:FT}{a b:FC}(h:Wt t ρ' fun c _=>Wif c (Wc a ρ p N R) (Wc b ρ p N R))(e:see j ρ p=ρ'):Wc (cIf j t a b) ρ p N R:=by
 obtain⟨c,ρ1,h1,h2,h3⟩:=h;cases c with
 |true=>obtain⟨o,h4,h5⟩:=h2 rfl;exact⟨o,by unfold cIf;rw[e,h1];exact h4,h5⟩
 |false=>obtain⟨o,h4,h5⟩:=h3 rfl;exact⟨o,by unfold cIf;rw[e,h1];exact h4,h5⟩
theorem Ze{j i:Nat}{f:FE}{d:Dat}{ρ2:Env}(h:We f ρ' fun v _=>v=.val d)(k:N ρ2 p)(e:see j ρ p=ρ')(hb:dg d=false)(hn:ρ.set i (.sh d)=ρ2)(hi:¬(i=0\/i=j)):Wc (cA j i f) ρ p N R:=by obtain⟨v,ρ1,h1,rfl⟩:=h;exact⟨.nx ρ2 p,by unfold cA;rw[if_neg hi,e,h1];dsimp only;rw[hb,hn];rfl,k⟩
theorem Y9{j i:Nat}{f:FP}{q:Dp}{D:Dat}{ρ2:Env}(h:Wp' f ρ' fun q' _=>q'=q)(k:N ρ2 p)(e:see j ρ p=ρ')(hb:aI q=true)(hd:q.dat=D)(hn:ρ.set i (.sh D)=ρ2)(hi:¬(i=0\/i=j)):Wc (qV j i f) ρ p N R:=by obtain⟨v,ρ1,h1,rfl⟩:=h;exact⟨.nx ρ2 p,by unfold qV;rw[if_neg hi,e,h1];dsimp only;rw[if_pos hb,hd,hn],k⟩
end
theorem oj(i:Int):iF (.int i)=true:=by unfold iF;rfl
theorem kj:∀ns:List Int,aQ ((ns.map Dat.int).map Dp.s)=true
 |[]=>by unfold aQ;rfl
 |i::r=>by rw[Sq,Sq,aQ,kj r,aI,oj];rfl
section
variable{N:Env->Prop}{R:RV->Env->Prop}{B C:Env->Prop}{ρ:Env}{p:Dp}
theorem Y6{j:Nat}{f:List Dat->Option Dp}{as:List FE}{g:FM}(h:Was as ρ fun xs ρ1=>∃ds p ρ3,f ds=some p/\Wm g ρ3 p N R B C/\pks ρ1 xs=some ds/\aI p=true/\ρ1.set j .un=ρ3)(hj:j≠0):Ws (iG j f as g) ρ N R B C:=by obtain⟨xs,ρ1,h1,ds,p,ρ3,h2,⟨o,h3,h4⟩,h5,h6,rfl⟩:=h;exact⟨o,by unfold iG;rw[if_neg hj,h1];dsimp only;rw[h5];dsimp only;rw[h2];dsimp only;rw[if_pos h6];exact h3,h4⟩
end
section
variable{ρ:Env}{P:Dp->Prop}{Q:Dp->Env->Prop}
theorem Y8{t:FT}{e:FE}{g:FSP}(h:Wt t ρ fun c ρ1=>c=false/\Wq g ρ1 P):Wq (uJ t e g) ρ P:=by obtain⟨c,ρ1,h1,rfl,p,h2,h3⟩:=h;exact⟨p,by unfold uJ;rw[h1];exact h2,h3⟩
theorem YV{t:FT}{e:FE}{g:FSP}{d:Dat}(h:Wt t ρ fun c ρ1=>c=true/\We e ρ1 fun v _=>v=.val d)(k:P (.s d)):Wq (uJ t e g) ρ P:=by obtain⟨c,ρ1,h1,rfl,v,ρ2,h2,rfl⟩:=h;exact⟨.s d,by unfold uJ;rw[h1];dsimp only;rw[h2],k⟩
theorem XU{f:List Dat->Option Dp}{as:List FE}(h:Was as ρ fun xs ρ1=>∃ds p ρ2,f ds=some p/\Q p ρ2/\tks ρ1 xs=some (ds,ρ2)):Wp' (lW f as) ρ Q:=by obtain⟨xs,ρ1,h1,ds,p,ρ2,h2,q,h3⟩:=h;exact⟨_,_,by unfold lW;rw[h1];dsimp only;rw[h3];dsimp only;rw[h2],q⟩
theorem YJ{f:FP}{z:Int}{xs:List Dp}{m:Nat}{x:Dp}(h:Wp' f ρ fun p ρ1=>p=.t xs/\Q x ρ1)(h1:ixN xs.length z=some m)(h2:xs[m]?=some x):Wp' (pIx f z) ρ Q:=by obtain⟨p,ρ1,h3,rfl,q⟩:=h;exact⟨_,_,by unfold pIx;rw[h3];dsimp only;rw[h1];dsimp only;rw[h2],q⟩
end
end Dm
namespace Fl
section
variable{r:List Tie}{S:Int->Bool}{R:Int->Step->Prop}{w:List Step}{p q:Int}{a b:Int}{t:Tie}{k:Nat}
structure Tie where
 m:Int
 a:Int
 b:Int
deriving Inhabited
noncomputable def one(b:Bool):Int:=if b then 1 else 0
def Ends(t:Tie)(p q:Int):Prop:=t.a≠t.b/\((t.a=p/\t.b=q)\/(t.b=p/\t.a=q))
theorem Ends.symm(h:Ends t p q):Ends t q p:=⟨h.1,h.2.symm.imp (fun x=>⟨x.2,x.1⟩) (fun x=>⟨x.2,x.1⟩)⟩
noncomputable abbrev Hd:=Int->Option Int
noncomputable def val(o:Option Int)(t:Tie)(S:Int->Bool):Int:=
 if t.a=t.b then 0 else if o=some t.b then one (S t.a)-one (S t.b) else if o=some t.a then one (S t.b)-one (S t.a) else 0
noncomputable def cW(r:List Tie)(H:Hd)(S:Int->Bool):Int:=match r with
 |[]=>0
 |t::r=>val (H t.m) t S+cW r H S
noncomputable def put(H:Hd)(m:Int)(o:Option Int):Hd:=fun x=>if x=m then o else H x
theorem Bs{H H':Hd}(h:∀t∈r,H t.m=H' t.m):cW r H S=cW r H' S:=by
 induction r with
 |nil=>rfl
 |cons t r ih=>rw[cW,cW,h t Sw,ih fun u hu=>h u (Sy _ hu)]
theorem uZ(nd:(r.map (·.m)).Nodup)(ht:t∈r)(H:Hd)(o:Option Int)(S:Int->Bool):cW r (put H t.m o) S=cW r H S-val (H t.m) t S+val o t S:=by
 induction r with
 |nil=>cases ht
 |cons u r ih=>
  rw[Sq,SV]at nd;rcases SD.mp ht with rfl | ht'
  ·rw[cW,cW];have e1:put H t.m o t.m=o:=by unfold put;rw[if_pos rfl]
   rw[e1,Bs (H:=put H t.m o) (H':=H) fun v hv=>?_]
   ·omega
   ·unfold put;rw[if_neg fun e=>?_];exact nd.1 (SW.mpr ⟨v,hv,e⟩)
  ·have PR:u.m≠t.m:=fun e=>nd.1 (SW.mpr ⟨t,ht',e.symm⟩);rw[cW,cW,ih nd.2 ht'];have e1:put H t.m o u.m=H u.m:=by unfold put;rw[if_neg PR]
   rw[e1];omega
theorem gT(h:Ends t p q)(S:Int->Bool):val (some q) t S=one (S p)-one (S q):=by
 obtain⟨h1,h2⟩:=h;unfold val;rw[if_neg h1];rcases h2 with⟨rfl,rfl⟩ | ⟨rfl,rfl⟩
 ·rw[if_pos rfl]
 ·rw[if_neg (by intro e;injection e with e;exact h1 e),if_pos rfl]
theorem gG(t:Tie)(S:Int->Bool):val none t S=0:=by
 unfold val;split
 ·rfl
 ·simp
def Ok(r:List Tie)(H:Hd):Prop:=∀t∈r,∀x,H t.m=some x->x=t.a\/x=t.b
noncomputable def gH(H:Hd)(m q:Int):Hd:=put H m (if (H m).isSome then none else some q)
theorem yc(nd:(r.map (·.m)).Nodup){H:Hd}(ok:Ok r H)(ht:t∈r)(he:Ends t p q)(hf:H t.m≠some q)(S:Int->Bool) :
  cW r (gH H t.m q) S=cW r H S+one (S p)-one (S q):=by
 unfold gH;rw[uZ nd ht];cases e:H t.m with
 |none=>simp only[Option.isSome_none,Tw,if_false];rw[gG,gT he];omega
 |some x=>
  have hx:=ok t ht x e;have:x=p:=by rw[e]at hf;have hxq:x≠q:=fun z=>hf (by rw[z]);obtain⟨_,h2⟩:=he;omega
  subst this;simp only[Option.isSome_some,if_true];rw[gG,gT he.symm];omega
theorem uniq(nd:(r.map (·.m)).Nodup){u t:Tie}(hu:u∈r)(ht:t∈r)(e:u.m=t.m):u=t:=by
 induction r with
 |nil=>cases hu
 |cons v r ih=>
  rw[Sq,SV]at nd;rcases SD.mp hu with rfl | h1
  ·rcases SD.mp ht with rfl | h2
   ·rfl
   ·exact absurd (SW.mpr ⟨t,h2,e.symm⟩) nd.1
  ·rcases SD.mp ht with rfl | h2
   ·exact absurd (SW.mpr ⟨u,h1,e⟩) nd.1
   ·exact ih nd.2 h1 h2
theorem DZ(nd:(r.map (·.m)).Nodup){H:Hd}(ok:Ok r H)(ht:t∈r)(he:Ends t p q):Ok r (gH H t.m q):=by
 intro u hu x hx;unfold gH put at hx;by_cases e:u.m=t.m
 ·rw[if_pos e]at hx;have:u=t:=uniq nd hu ht e;subst this;split at hx
  ·cases hx
  ·injection hx with hx
   obtain⟨_,h2⟩:=he;omega
 ·rw[if_neg e]at hx;exact ok u hu x hx
noncomputable abbrev Step:=Int×Int
def Way(R:Int->Step->Prop):Int->List Step->Int->Prop
 |x,[],y=>x=y
 |x,s::w,y=>R x s/\Way R s.2 w y
theorem Way.snoc:∀{w:List Step} {x y:Int} {s:Step},Way R x w y->R y s->Way R x (w++[s]) s.2
 |[],_,_,_,h,k=>by cases h;exact⟨k,rfl⟩
 |_::_,_,_,_,h,k=>⟨h.1,Way.snoc h.2 k⟩
theorem Way.mono{R R':Int->Step->Prop}(h:∀p s,R p s->R' p s):∀{w:List Step} {x y:Int},Way R x w y->Way R' x w y
 |[],_,_,k=>k
 |_::_,_,_,k=>⟨h _ _ k.1,Way.mono h k.2⟩
def eY(r:List Tie)(p:Int)(s:Step):Prop:=∃t∈r,t.m=s.1/\Ends t p s.2
def dS(r:List Tie)(H:Hd)(p:Int)(s:Step):Prop:=eY r p s/\H s.1≠some s.2
def Led(r:List Tie)(H:Hd)(p:Int)(s:Step):Prop:=eY r p s/\H s.1=some s.2
theorem lq(nd:(r.map (·.m)).Nodup)(hR:∀p s,R p s->eY r p s){x y:Int}{s:Step}(h:Way R x (s::w) y)(hn:(x::(s::w).map (·.2)).Nodup):∀u∈w,u.1≠s.1:=by
 obtain⟨h1,h2⟩:=h;obtain⟨t,ht,hm,he⟩:=hR _ _ h1;have main:∀(w:List Step) (z:Int),Way R z w y->(∀u∈w,u.2≠x/\u.2≠s.2)->∀u∈w,u.1≠s.1:=fun w=>by
  induction w with
  |nil=>intro z _ _ u hu;cases hu
  |cons v w ih=>
   intro z hw hd u hu;rcases SD.mp hu with rfl | hu
   ·intro e;obtain⟨t',ht',hm',he'⟩:=hR _ _ hw.1;have:=uniq nd ht' ht (by rw[hm',e,hm]);subst this;obtain⟨d1,d2⟩:=hd u Sw;obtain⟨_,he⟩:=he;obtain⟨_,he'⟩:=he';omega
   ·exact ih v.2 hw.2 (fun u hu=>hd u (Sy _ hu)) u hu
 rw[Sq,SV,SV]at hn;refine main w s.2 h2 fun u hu=>⟨fun e=>hn.1 ?_,fun e=>hn.2.1 ?_⟩
 ·exact Sy _ (SW.mpr ⟨u,hu,e⟩)
 ·exact SW.mpr ⟨u,hu,e⟩
theorem lY(nd:(r.map (·.m)).Nodup)(hR:∀p s,R p s->eY r p s){y:Int}:∀{w:List Step} {x:Int},Way R x w y->(x::w.map (·.2)).Nodup->(w.map (·.1)).Nodup
 |[],_,_,_=>by simp
 |s::w,x,h,hn=>by rw[Sq,SV];refine⟨fun e=>?_,lY nd hR h.2 (by rw[Sq,SV]at hn;exact hn.2)⟩;obtain⟨u,hu,e⟩:=SW.mp e;exact lq nd hR h hn u hu e
noncomputable def lZ(H:Hd):List Step->Hd
 |[]=>H
 |s::w=>lZ (gH H s.1 s.2) w
theorem u5{H:Hd}{m q x:Int}(h:x≠m):gH H m q x=H x:=by unfold gH put;rw[if_neg h]
theorem iJ(nd:(r.map (·.m)).Nodup)(S:Int->Bool):∀{w:List Step} {x y:Int} {H:Hd},Ok r H->Way (dS r H) x w y->(x::w.map (·.2)).Nodup ->
  Ok r (lZ H w)/\cW r (lZ H w) S=cW r H S+one (S x)-one (S y)
 |[],x,y,H,ok,h,_=>by cases h;exact⟨ok,by rw[lZ];omega⟩
 |s::w,x,y,H,ok,h,hn=>by
  have hfr:=lq nd (fun p s h=>h.1) h hn;obtain⟨⟨⟨t,ht,hm,he⟩,hf⟩,h2⟩:=h;have ok1:=DZ nd ok ht he;have f1:=yc nd ok ht he (by rw[hm];exact hf) S;rw[hm]at ok1 f1;have h3:Way (dS r (gH H s.1 s.2)) s.2 w y:=by
   have main:∀(w:List Step) (z:Int),(∀u∈w,u.1≠s.1)->Way (dS r H) z w y->Way (dS r (gH H s.1 s.2)) z w y:=fun w=>by
    induction w with
    |nil=>intro _ _ h;exact h
    |cons u w ih=>intro z hu hw;exact⟨⟨hw.1.1,by rw[u5 (hu u Sw)];exact hw.1.2⟩,ih u.2 (fun v hv=>hu v (Sy _ hv)) hw.2⟩
   exact main w s.2 hfr h2
  obtain⟨k1,k2⟩:=iJ nd S ok1 h3 (by rw[Sq,SV]at hn;exact hn.2);rw[lZ];exact⟨k1,by rw[k2,f1];omega⟩
noncomputable def fS(H:Hd):List Step->Hd
 |[]=>H
 |s::w=>fS (put H s.1 none) w
theorem gI:∀{w:List Step} {H:Hd} {x:Int},(∀u∈w,u.1≠x)->fS H w x=H x
 |[],_,_,_=>rfl
 |s::w,H,x,h=>by rw[fS,gI fun u hu=>h u (Sy _ hu)];unfold put;rw[if_neg fun e=>h s Sw e.symm]
theorem iK:∀{w:List Step} {H:Hd} {x:Int},x∈w.map (·.1)->fS H w x=none
 |[],_,_,h=>by cases h
 |s::w,H,x,h=>by
  rw[fS];by_cases e:x∈w.map (·.1)
  ·exact iK e
  ·rw[gI fun u hu z=>e (SW.mpr ⟨u,hu,z⟩)];rw[Sq]at h;rcases SD.mp h with rfl | h
   ·unfold put;rw[if_pos rfl]
   ·exact absurd h e
theorem iM(nd:(r.map (·.m)).Nodup)(S:Int->Bool):∀{w:List Step} {x y:Int} {H:Hd},Ok r H->Way (Led r H) x w y->(x::w.map (·.2)).Nodup ->
  Ok r (fS H w)/\cW r (fS H w) S=cW r H S-one (S x)+one (S y)
 |[],x,y,H,ok,h,_=>by cases h;exact⟨ok,by rw[fS];omega⟩
 |s::w,x,y,H,ok,h,hn=>by
  have hfr:=lq nd (fun p s h=>h.1) h hn;obtain⟨⟨⟨t,ht,hm,he⟩,hf⟩,h2⟩:=h;have ok1:Ok r (put H s.1 none):=fun u hu z hz=>by
   unfold put at hz;split at hz
   ·cases hz
   ·exact ok u hu z hz
  have f1:=uZ nd ht H none S;rw[gG,hm,hf,gT he]at f1;have h3:Way (Led r (put H s.1 none)) s.2 w y:=by
   have main:∀(w:List Step) (z:Int),(∀u∈w,u.1≠s.1)->Way (Led r H) z w y->Way (Led r (put H s.1 none)) z w y:=fun w=>by
    induction w with
    |nil=>intro _ _ h;exact h
    |cons u w ih=>intro z hu hw;exact⟨⟨hw.1.1,by unfold put;rw[if_neg (hu u Sw)];exact hw.1.2⟩,ih u.2 (fun v hv=>hu v (Sy _ hv)) hw.2⟩
   exact main w s.2 hfr h2
  obtain⟨k1,k2⟩:=iM nd S ok1 h3 (by rw[Sq,SV]at hn;exact hn.2);rw[fS];exact⟨k1,by rw[k2,f1];omega⟩
noncomputable def over(S:Int->Bool)(t:Tie):Bool:=S t.a != S t.b
theorem D0{H:Hd}(hc:∀p s,S p=true->dS r H p s->S s.2=true):cW r H S=((r.filter (over S)).length:Nat):=by
 have main:∀(q:List Tie),(∀t∈q,t∈r)->cW q H S=((q.filter (over S)).length:Nat):=fun q=>by
  induction q with
  |nil=>intro _;rfl
  |cons t q ih=>
   intro hq;rw[cW,ih fun u hu=>hq u (Sy _ hu)];by_cases ho:over S t=true
   ·rw[T7 ho];have PR:t.a≠t.b:=fun e=>by unfold over at ho;rw[e]at ho;simp at ho
    have hv:val (H t.m) t S=1:=by
     unfold over at ho;cases ha:S t.a with
     |true=>
      have hb:S t.b=false:=by rw[ha]at ho;simpa using ho
      have he:Ends t t.a t.b:=⟨PR,.inl ⟨rfl,rfl⟩⟩
      have:H t.m=some t.b:=U7 fun e=>by have:=hc t.a (t.m,t.b) ha ⟨⟨t,hq t Sw,rfl,he⟩,e⟩;rw[hb]at this;cases this
      rw[this,gT he,ha,hb];rfl
     |false=>
      have hb:S t.b=true:=by rw[ha]at ho;simpa using ho
      have he:Ends t t.b t.a:=⟨PR,.inr ⟨rfl,rfl⟩⟩
      have:H t.m=some t.a:=U7 fun e=>by have:=hc t.b (t.m,t.a) hb ⟨⟨t,hq t Sw,rfl,he⟩,e⟩;rw[ha]at this;cases this
      rw[this,gT he,ha,hb];rfl
    rw[hv,S1];omega
   ·rw[T6 ho];have hv:val (H t.m) t S=0:=by
     unfold over at ho;have:S t.a=S t.b:=by simpa using ho
     unfold val;rw[this];split
     ·rfl
     ·split
      ·omega
      ·split<;>omega
    rw[hv];omega
 exact main r fun _ h=>h
theorem D3{H:Hd}(ok:Ok r H)(hc:∀p s,S p=true->Led r H p s->S s.2=true):cW r H S<=0:=by
 have main:∀(q:List Tie),(∀t∈q,t∈r)->cW q H S<=0:=fun q=>by
  induction q with
  |nil=>intro _;exact U0 _
  |cons t q ih=>
   intro hq;rw[cW];have h1:=ih fun u hu=>hq u (Sy _ hu);have hv:val (H t.m) t S<=0:=by
    by_cases PR:t.a=t.b
    ·unfold val;rw[if_pos PR];exact U0 _
    cases e:H t.m with
    |none=>rw[gG];exact U0 _
    |some x=>
     have key:∀p,Ends t p x->val (some x) t S<=0:=fun p he=>by
      rw[gT he];cases hp:S p with
      |false=>cases S x<;>decide
      |true=>have:=hc p (t.m,x) hp ⟨⟨t,hq t Sw,rfl,he⟩,e⟩;rw[this];decide
     rcases ok t (hq t Sw) x e with rfl | rfl
     ·exact key t.b ⟨PR,.inr ⟨rfl,rfl⟩⟩
     ·exact key t.a ⟨PR,.inl ⟨rfl,rfl⟩⟩
   omega
 exact main r fun _ h=>h
structure Flow(r:List Tie)(H:Hd)(a b:Int)(k:Nat):Prop where
 ok:Ok r H
 eq:∀S,cW r H S=(k:Int)*(one (S a)-one (S b))
theorem Flow.zero(r:List Tie)(a b:Int):Flow r (fun _=>none) a b 0:=⟨fun _ _ _ h=>(by cases h),fun S=>by
 induction r with
 |nil=>simp[cW]
 |cons t r ih=>rw[cW,gG,ih];simp⟩
theorem Flow.more(nd:(r.map (·.m)).Nodup){H:Hd}(f:Flow r H a b k)(h:Way (dS r H) a w b)(hn:(a::w.map (·.2)).Nodup):Flow r (lZ H w) a b (k+1):=
 ⟨(iJ nd (fun _=>true) f.ok h hn).1,fun S=>by
  rw[(iJ nd S f.ok h hn).2,f.eq S];have:((k+1:Nat):Int)=(k:Int)+1:=by omega
  rw[this,Wj];omega⟩
theorem Flow.less(nd:(r.map (·.m)).Nodup){H:Hd}(f:Flow r H a b (k+1))(h:Way (Led r H) a w b)(hn:(a::w.map (·.2)).Nodup):Flow r (fS H w) a b k:=
 ⟨(iM nd (fun _=>true) f.ok h hn).1,fun S=>by
  rw[(iM nd S f.ok h hn).2,f.eq S];have:((k+1:Nat):Int)=(k:Int)+1:=by omega
  rw[this,Wj];omega⟩
theorem Flow.cut{H:Hd}(f:Flow r H a b k)(ha:S a=true)(hb:S b=false)(hc:∀p s,S p=true->dS r H p s->S s.2=true):(r.filter (over S)).length=k:=by have h1:=D0 hc;rw[f.eq S,ha,hb]at h1;simp[one]at h1;omega
theorem Flow.reach{H:Hd}(f:Flow r H a b (k+1))(ha:S a=true)(hc:∀p s,S p=true->Led r H p s->S s.2=true):S b=true:=by
 cases hb:S b with
 |true=>rfl
 |false=>have h1:=D3 f.ok hc;rw[f.eq S,ha,hb]at h1;simp[one]at h1;omega
end
end Fl
namespace Dm
def Wn(f:FN)(ρ:Env)(r:List (List Dat))(Q:Env->List (List Dat)->Prop):Prop:=∃ρ' r',f ρ r=some (ρ',r')/\Q ρ' r'
section
variable{ρ:Env}{r:List (List Dat)}{Q:Env->List (List Dat)->Prop}
theorem YD{it:FI}{bd:FB}{body:FN}(h:Wi it ρ fun ds ρ1=>Wn (gw bd body ds) ρ1 r Q):Wn (qt it bd body) ρ r Q:=by obtain⟨ds,ρ1,e1,ρ2,r2,e2,q⟩:=h;exact⟨ρ2,r2,by unfold qt;rw[e1];exact e2,q⟩
end
theorem Yl{α:Type}(DV:α->Dat)(bd:FB)(body:FN)(Q:Env->List (List Dat)->Prop)(I:List α->List α->Env->List (List Dat)->Prop):∀(q p:List α) (ρ:Env) (r:List (List Dat)),I p q ρ r ->
  (∀p x q ρ r,I p (x::q) ρ r->∃ρ1,bd (DV x) ρ=some ρ1/\Wn body ρ1 r (I (p++[x]) q))->(∀p ρ r,I p [] ρ r->Q ρ r)->Wn (gw bd body (q.map DV)) ρ r Q
 |[],p,ρ,r,h,_,k=>⟨ρ,r,rfl,k p ρ r h⟩
 |x::q,p,ρ,r,h,s,k=>by obtain⟨ρ1,e1,ρ2,r2,e2,h2⟩:=s p x q ρ r h;obtain⟨ρ3,r3,e3,h3⟩:=Yl DV bd body Q I q (p++[x]) ρ2 r2 h2 s k;refine⟨ρ3,r3,?_,h3⟩;rw[Sq];unfold gw;rw[e1];dsimp only;rw[e2];exact e3
theorem D4{c:Char}(h:c.isDigit=true):c.toNat<128:=by
 unfold Char.isDigit at h;simp only[SQ,decide_eq_true_eq]at h;have h2:=h.2;have:c.val.toNat<=57:=by exact_mod_cast (UInt32.le_iff_toNat_le.mp h2)
 show c.val.toNat<128;omega
theorem nat_ascii(n:Nat):∀c∈codes n.repr,c<128:=fun c hc=>by unfold codes at hc;rw[Nat.toList_repr]at hc;obtain⟨d,hd,rfl⟩:=SW.mp hc;exact D4 (Nat.isDigit_of_mem_toDigits (by decide) (by decide) hd)
theorem int_ascii(i:Int):∀c∈codes (toString i),c<128:=fun c hc=>by
 rw[Int.toString_eq_repr]at hc;unfold Int.repr at hc;cases i with
 |ofNat m=>exact nat_ascii m c hc
 |negSucc m=>
  dsimp only at hc;unfold codes at hc;rw[String.toList_append,S0,S4]at hc;rcases hc with hc | hc
  ·have:c∈[45]:=hc;rw[SY]at this;omega
  ·exact nat_ascii m.succ c hc
theorem lu:∀l:List (List Nat),(∀x∈l,∀c∈x,c<128)->∀c∈shJ l,c<128
 |[],_,c,h=>by cases h
 |[x],k,c,h=>k x Sw c h
 |x::y::r,k,c,h=>by
  unfold shJ at h;rcases S4.mp h with h | h
  ·exact k x Sw c h
  ·rcases SD.mp h with rfl | h
   ·decide
   ·rcases SD.mp h with rfl | h
    ·decide
    ·exact lu (y::r) (fun z hz=>k z (Sy _ hz)) c h
mutual
theorem rj:∀(n:Nat) (d:Dat),dU n d=true->∀c∈shw d,c<128
 |_,.non,_=>by decide
 |_,.bl b,_=>by cases b<;>decide
 |n,.int i,h=>by unfold shw;exact int_ascii i
 |n+1,.tup xs,h=>fun c hc=>by
  unfold shw at hc;rcases SD.mp hc with rfl | hc
  ·decide
  ·rcases S4.mp hc with hc | hc
   ·exact lu _ (iN n xs h) c hc
   ·split at hc
    ·simp only[SD,TV,or_false]at hc;omega
    ·simp only[SD,TV,or_false]at hc;omega
 |n+1,.lst xs,h=>fun c hc=>by
  unfold shw at hc;rcases SD.mp hc with rfl | hc
  ·decide
  ·rcases S4.mp hc with hc | hc
   ·exact lu _ (iN n xs h) c hc
   ·simp only[SD,TV,or_false]at hc;omega
 |0,.tup xs,h=>by cases h
 |0,.lst xs,h=>by cases h
 |n,.str s,h=>by
  have h:s=[115,105,110,99,101]\/s=[110,101,118,101,114]:=by cases n<;>exact of_decide_eq_true h
  rcases h with rfl | rfl<;>decide
 |0,.dct _ _,h=>by cases h
 |_+1,.dct _ _,h=>by cases h
 |0,.exc _,h=>by cases h
 |_+1,.exc _,h=>by cases h
 |0,.fn _,h=>by cases h
 |_+1,.fn _,h=>by cases h
theorem iN:∀(n:Nat) (xs:List Dat),bY n xs=true->∀x∈fW xs,∀c∈x,c<128
 |_,[],_=>by intro x hx;cases hx
 |n,y::r,h=>by
  unfold bY at h;rw[SQ]at h;intro x hx;unfold fW at hx;rcases SD.mp hx with rfl | hx
  ·exact rj n y h.1
  ·exact iN n r h.2 x hx
end
section
variable{ρ:Env}{P:Dp->Prop}{ps:List Dp}{f:List Dat->Option Dp}{R:Dat->Env->Prop}{Q:Val->Env->Prop}{N:Env->Dp->Prop}{p:Dp}{d:Dat}{j:Nat}{K:RV->Prop}{as:List FE}{b:Bool}
theorem Yp{xs:List Dat}{o:Option (List Dat)}(h1:dU 8 (.tup xs)=true)(h2:iH (.tup xs)<=900)(k:K (.val (.str (shw (.tup xs)))))(ho:o=some [.tup xs]):WB n6 o K:=⟨_,_,ho,by unfold n6;dsimp only;rw[if_pos ⟨h1,h2⟩],k⟩
theorem HM(h:dU 8 d=true):gNe (.str (shw d)) (.str (shw d))=some (.val (.bl false)):=by
 have a:okD 8 (.str (shw d))=true:=by unfold okD;rw[TM];exact fun c hc=>decide_eq_true (rj 8 d h c hc)
 unfold gNe;rw[a];simp[eqD]
theorem YR{o p:Option Dat}(h:dU 8 d=true)(k:K (.val (.bl false)))(ho:o=some (.str (shw d)))(hp:p=some (.str (shw d))):Wg2 gNe o p K:=⟨_,_,_,ho,hp,HM h,k⟩
theorem zB{α:Type}(DV:α->Dat)(bd:FB)(u:FE)(I:List α->List α->Env->Prop):∀(q p:List α) (ρ:Env),I p q ρ ->
  (∀p x q ρ,I p (x::q) ρ->∃ρ1,bd (DV x) ρ=some ρ1/\We u ρ1 fun _ ρ2=>I (p++[x]) q ρ2)->∃ρ2 p',nEs bd u (q.map DV) ρ=some ρ2/\p'=p++q/\I p' [] ρ2
 |[],p,ρ,h,_=>⟨ρ,p,rfl,by simp,h⟩
 |x::q,p,ρ,h,s=>by obtain⟨ρ1,e1,v,ρ2,e2,h2⟩:=s p x q ρ h;obtain⟨ρ3,p',e3,h3,h4⟩:=zB DV bd u I q (p++[x]) ρ2 h2 s;refine⟨ρ3,p',?_,by rw[h3];simp,h4⟩;rw[Sq];unfold nEs;rw[e1];dsimp only;rw[e2];exact e3
theorem YS{j i:Nat}{e u:FE}{bd:FB}{r:List (List Dat)}{Q:Env->List (List Dat)->Prop}(h:We e ρ fun v ρ1=>∃ds ρ2,v=.new (.lst ds)/\nEs bd u ds (ρ1.set i .un)=some ρ2/\Q ρ2 (r++[ds]))(hi:¬(i=0\/i=j))(hl:r.length<SZ):Wn (Bj j i e bd u) ρ r Q:=by obtain⟨v,ρ1,e1,ds,ρ2,rfl,e2,q⟩:=h;refine⟨ρ2,r++[ds],?_,q⟩;unfold Bj;rw[if_neg hi,e1];dsimp only;rw[e2];dsimp only;rw[if_pos hl]
theorem Y4{Px:FN}{ρ ρ1:Env}(h:Wn Px ρ1 [] fun _ r=>P (.l (r.map fun row=>.l (row.map .s))))(h0:j≠0)(h1:ρ.set j .un=ρ1):Wq (qY j Px) ρ P:=by obtain⟨ρ2,r2,e,q⟩:=h;refine⟨_,?_,q⟩;unfold qY;rw[if_neg h0,h1,e]
theorem D5(r:List Dat):HE (.l (r.map .s))=some r:=by
 unfold HE;dsimp only
 induction r with
 |nil=>rfl
 |cons x q ih=>rw[Sq,List.foldr_cons,ih]
theorem Bt(rs:List (List Dat)):qZ (rs.map fun r=>.l (r.map .s))=some rs:=by
 induction rs with
 |nil=>rfl
 |cons x q ih=>rw[Sq];unfold qZ;rw[D5,ih]
def Wh(g:FQ)(ρ:Env)(p:Dp)(P:Dp->Prop):Prop:=∃q,g ρ p=some q/\P q
theorem YC{j z:Nat}{g:FQ}(h:Was as ρ fun xs ρ1=>∃ds ρ2 ys p ρ3,tks ρ1 xs=some (ds,ρ2)/\f ds=some (.t ys)/\ys[z]?=some p/\ρ2.set j .un=ρ3/\Wh g ρ3 p P)(h0:j≠0):Wq (Bk j f as z g) ρ P:=by obtain⟨xs,ρ1,e1,ds,ρ2,ys,p,ρ3,e2,e3,e4,e5,q,e6,k⟩:=h;refine⟨q,?_,k⟩;unfold Bk;rw[if_neg h0,e1];dsimp only;rw[e2];dsimp only;rw[e3];dsimp only;rw[e4];dsimp only;rw[e5];exact e6
theorem YH{c:FC}{g:FQ}(h:Wc c ρ p (fun ρ1 p1=>Wh g ρ1 p1 P) (fun _ _=>False)):Wh (Bl c g) ρ p P:=by
 obtain⟨o,e,k⟩:=h;cases o with
 |nx ρ1 p1=>
  obtain⟨q,e2,k2⟩:=(show Wh g ρ1 p1 P from k)
  exact⟨q,by unfold Bl;rw[e];exact e2,k2⟩
 |rt d ρ1=>exact(show False from k).elim
theorem YL{ts:List PU}(h:fF j ρ p false ts=some ps)(hl:ps.length<=SZ)(q:P (.t ps)):Wh (Bm j ts) ρ p P:=⟨_,by unfold Bm;rw[h];dsimp only;rw[if_pos hl],q⟩
theorem D6{ρ ρ':Env}{f:FE}{r:List PU}(h:We f ρ' fun v _=>v=.val d)(e:see j ρ p=ρ')(hb:dg d=false)(k:fF j ρ p b r=some ps):fF j ρ p b (.e f::r)=some (.s d::ps):=by obtain⟨v,ρ1,e1,rfl⟩:=h;rw[<- e]at e1;unfold fF;rw[e1];dsimp only;rw[if_neg (by rw[hb];exact S3),k]
theorem Mh{j i:Nat}{r:List PU}(h:ρ[i]?=some (.sh d))(hi:i≠j)(k:fF j ρ p b r=some ps):fF j ρ p b (.v i::r)=some (.s d::ps):=by unfold fF;rw[if_neg hi,h];dsimp only;rw[k]
theorem Mi{r:List PU}(k:fF j ρ p true r=some ps):fF j ρ p false (.w::r)=some (p::ps):=by unfold fF;rw[if_neg S3,k]
theorem Y_{j z i:Nat}{ρ ρ2:Env}{xs:List Dp}{rs:List (List Dat)}(q:N ρ2 (.t (xs.set z (.l (rs.map fun _=>.l [])))))(hx:xs[z]?=some (.l (rs.map fun r=>.l (r.map .s))))(hi:¬(i=0\/i=j))(hn:ρ.set i .un=ρ2):Wc (n_ j z i) ρ (.t xs) N R:=by refine⟨.nx ρ2 _,?_,q⟩;unfold n_;rw[if_neg hi];dsimp only;rw[hx];dsimp only;rw[Bt];dsimp only;rw[hn]
theorem YG{z:Nat}{xs rows:List Dp}(q:N ρ (.t (xs.set z (.l []))))(hx:xs[z]?=some (.l rows)):Wc (x8 z) ρ (.t xs) N R:=by refine⟨.nx ρ _,?_,q⟩;unfold x8;dsimp only;rw[hx]
theorem XN{a e:FE}(h:We a ρ fun v ρ1=>We e ρ1 fun w ρ2=>∃xs k,w=.val (.int k)/\pk ρ2 v=some (.tup xs)/\Q (.val (.tup (cut xs none (some k)))) ρ2):We (kh a none (some e)) ρ Q:=by obtain⟨v,ρ1,e1,w,ρ2,e2,xs,k,rfl,e3,q⟩:=h;refine⟨_,_,?_,q⟩;unfold kh;rw[e1];dsimp only[part];rw[e2];dsimp only;rw[e3]
theorem XM(h:Was as ρ fun xs ρ1=>∃ds p,f ds=some p/\pks ρ1 xs=some ds/\aI p=true/\Q (.val p.dat) ρ1):We (eFT f as) ρ Q:=by obtain⟨xs,ρ1,e1,ds,p,e2,e3,e4,q⟩:=h;refine⟨_,_,?_,q⟩;unfold eFT;rw[e1];dsimp only;rw[e3];dsimp only;rw[e2];dsimp only;rw[if_pos e4]
end
end Dm
namespace P
open Dm
noncomputable def ko:FN:=
  (nIf (tV (e2 gNe (eV 4) (eV 5))) (A6 (xO (eV 4) (iw [(eV 3),(eV 5)]))
  (xO (eV 5) (iw [(eV 3),(eV 4)]))) nNx)
noncomputable def D7:List Dat->Option RV:=fn 2 4
  (aC (nN 2 (iR1 (eV 0)) 1 (bN 6) (qt (iS (eV 1)) (bT [3,4,5])
  ko))
  (sR (eV 2)))
noncomputable def D8:List Dat->Option RV:=fn 2 0
  (sR (bB 0 1 (bN 2) dZ (bB 2 1 (bN 3) (tV (e2 gNe (lS (eV 1) (e2 gIx (eV 3) (eC (.int 0)))) (e2 gIx (eV 3) (eC (.int 1))))) (eV 3))))
noncomputable def D9:List Dat->Option RV:=fn 2 0
  (sR (bB 0 1 (bN 2) dZ (bB 2 1 (bN 3) (tV (e2 gEq (lS (eV 1) (e2 gIx (eV 3) (eC (.int 0)))) (e2 gIx (eV 3) (eC (.int 1))))) (eV 3))))
noncomputable def Jo:FS:=
  (sIf (tV (e2 qP (e2 gIx (eV 5) (eC (.int 1))) (eV 2))) (aC (lT 2 (e2 gIx (eV 5) (eC (.int 1))) (e2 bw (e2 gDx (eV 2) (eV 4)) (f7 [(eV 5)])))
  (rX 3 (e2 gIx (eV 5) (eC (.int 1))))) sNx)
noncomputable def Jp:FS:=
  (aC (sA 4 (kW 3 (eC (.int 0))))
  (gX (iS (e2 gIx (eV 0) (eV 4))) (bN 5)
  Jo))
noncomputable def u6:List Dat->Option RV:=fn 2 4
  (aC (sA 2 (eD1 (eV 1) (f7 [])))
  (aC (sA 3 (f7 [(eV 1)]))
  (aC (whD (tTr (eV 3))
  Jp 100)
  (sR (eV 2)))))
noncomputable def Jq:FS:=
  (sIf (tV (e2 A1 (eV 2) (eV 0))) (sE (lV 0 (eV 2))) (lT 0 (eV 2) (eV 3)))
noncomputable def D_:List Dat->Option (RV×Dat):=fnM 2 2
  (gX (iS (eV 1)) (bT [2,3])
  Jq)
noncomputable def Jr:FN:=
  (Bj 6 8 (cC (iS (e2 gDx (eF u6 [(eFd D9 [(eV 0),(eV 5)]),(eV 2)]) (eV 3))) 1 (bN 10) dZ (e2 gIx (eV 10) (eC (.int 0)))) (bN 9) (lV 5 (eV 9)))
noncomputable def dG:List Dat->Option Dp:=fnP 5 5
  (fC (sA 5 (eB uE [(eV 1)]))
  (qY 6 (qt (iR1 (eV 4)) (bN 7)
  Jr)))
noncomputable def Ea:FS:=
  (aC (sA 9 (eF u6 [(eFd D8 [(eV 5),(eV 6)]),(eV 2)]))
  (sIf (tV (e2 A1 (eV 3) (eV 9))) (aC (sE (eFm D_ 6 [(e2 gDx (eV 9) (eV 3))]))
  (sA 8 (e2 bw (eV 8) (eC (.int 1))))) (sA 7 (eB ng [(eB kY [(eV 9)])]))))
noncomputable def bg:List Dat->Option Dp:=fnP 5 5
  (fC (sA 5 (eF D7 [(eV 0),(eV 1)]))
  (fC (sA 6 eDn)
  (fC (sA 7 (eC .non))
  (fC (sA 8 (eC (.int 0)))
  (fC (whD (mU (tV (e2 gLt (eV 8) (eV 4))) (tV (e2 sC (eV 7) (eC .non))))
  Ea 100)
  (qR (pT [(lW dG [(eV 5),(eV 6),(eV 2),(eV 3),(eV 8)]),(pO (eV 7))])))))))
noncomputable def Bu:List Dat->Option RV:=fn 5 0
  (sR (e2 sC (e2 gIx (eFT bg [(eV 0),(eV 1),(eV 2),(eV 3),(eV 4)]) (eC (.int 1))) (eC .non)))
noncomputable def HN:List Dat->Option RV:=fn 1 0
  (sR (eO (e1 (jT isI) (eV 0)) (xu (e1 (jT isB) (eV 0)))))
noncomputable def u7:List Dat->Option RV:=fn 3 0
  (sR (eO (eF HN [(eV 0)]) (f_ gLe gLe (eV 1) (eV 0) (eV 2))))
noncomputable def zC:List Dat->Option RV:=fn 1 0
  (sR (eF u7 [(eV 0),(eC (.int 1)),(eC (.int 10))]))
noncomputable def ou:List Dat->Option RV:=fn 2 0
  (sR (eF u7 [(eV 1),(eC (.int 0)),(e2 ir (eV 0) (eC (.int 1)))]))
noncomputable def oz:List Dat->Option RV:=fn 1 0
  (sR (eF u7 [(eV 0),(eC (.int 1)),(eC (.int 6))]))
noncomputable def zD:List Dat->Option RV:=fn 1 0
  (sR (eF u7 [(eV 0),(eC (.int 0)),(e2 iz (eC (.int 10)) (eC (.int 30)))]))
noncomputable def zF:List Dat->Option RV:=fn 2 0
  (aC (sIf (tOr (b8 (tV (e1 (jT isT) (eV 1)))) (tV (e2 gNe (eB dN [(eV 1)]) (eC (.int 3))))) (sR (eC (.bl false))) sNx)
  (sR (eO (eF zD [(e2 gIx (eV 1) (eC (.int 0)))]) (eO (eF ou [(eV 0),(e2 gIx (eV 1) (eC (.int 1)))]) (eF ou [(eV 0),(e2 gIx (eV 1) (eC (.int 2)))])))))
noncomputable def zG:List Dat->Option RV:=fn 2 0
  (sR (eO (eF zF [(eV 0),(eV 1)]) (e2 gLe (e2 gIx (eV 1) (eC (.int 1))) (e2 gIx (eV 1) (eC (.int 2))))))
noncomputable def zH:List Dat->Option RV:=fn 1 0
  (sR (eB rY [(cC (iR2 (eC (.int 1)) (eB dN [(eV 0)])) 1 (bN 1) dZ (e2 gLt (e2 gIx (eV 0) (e2 ir (eV 1) (eC (.int 1)))) (e2 gIx (eV 0) (eV 1))))]))
noncomputable def zI:List Dat->Option RV:=fn 3 0
  (sR (eO (eF ou [(eV 0),(eV 1)]) (eO (eF ou [(eV 0),(eV 2)]) (e2 gNe (eV 1) (eV 2)))))
noncomputable def zJ:List Dat->Option RV:=fn 1 0
  (sIf (b8 (tV (eF oz [(eV 0)]))) (fun _=>none) sNx)
noncomputable def zK:List Dat->Option RV:=fn 3 0
  (sIf (b8 (tV (eF zI [(eV 0),(eV 1),(eV 2)]))) (fun _=>none) sNx)
noncomputable def zL:List Dat->Option RV:=fn 3 0
  (sR (bB 0 1 (bN 3) dZ (eIf (tV (e2 gEq (eV 3) (e2 gIx (eV 0) (eV 2)))) (e2 gIx (eV 0) (eV 1)) (eV 3))))
noncomputable def Eb:FS:=
  (sIf (tV (e2 gNe (e2 gIx (eV 4) (eV 1)) (e2 gIx (eV 4) (eV 2)))) (sR (e2 bw (eV 3) (eC (.int 1)))) sNx)
noncomputable def u9:List Dat->Option RV:=fn 3 2
  (aC (gX (iEn (eV 0)) (bT [3,4])
  Eb)
  (sR (eC (.int 0))))
noncomputable def Ec:FS:=
  (aC (sA 8 (eF u9 [(eV 3),(eV 6),(eV 7)]))
  (aC (sIf (tV (e2 gGt (eV 8) (eC (.int 0)))) (xw 3 (e2 ir (eV 8) (eC (.int 1))) (eF zL [(e2 gIx (eV 3) (e2 ir (eV 8) (eC (.int 1)))),(eV 6),(eV 7)])) sNx)
  (rX 4 (eV 8))))
noncomputable def rm:List Dat->Option RV:=fn 3 6
  (aC (sE (eF zJ [(eV 2)]))
  (aC (sA 3 (cC (iR1 (eV 2)) 1 (bN 9) dZ (eB qN [(eV 0)])))
  (aC (sA 4 (f7 []))
  (aC (gX (AZ (eV 1)) (bT [5,6,7])
  Ec)
  (sR (e1 nG (eV 4)))))))
noncomputable def zM:List Dat->Option RV:=fn 2 0
  (aC (sIf (tOr (b8 (tV (eF zC [(eV 0)]))) (tOr (b8 (tV (e1 (jT isL) (eV 1)))) (tV (e2 gGt (eB dN [(eV 1)]) (eC (.int 60)))))) (sR (eC (.bl false))) sNx)
  (aC (sIf (b8 (tV (eB rY [(bB 1 1 (bN 2) dZ (eF zG [(eV 0),(eV 2)]))]))) (sR (eC (.bl false))) sNx)
  (sR (eF zH [(bB 1 1 (bN 2) dZ (e2 gIx (eV 2) (eC (.int 0))))]))))
noncomputable def u_:List Dat->Option RV:=fn 2 0
  (sR (bB 0 1 (bN 2) (tV (e2 gGe (e2 gIx (eV 2) (eC (.int 0))) (eV 1))) (eV 2)))
noncomputable def zN:List Dat->Option RV:=fn 1 0
  (aC (sIf (tOr (b8 (tV (e1 (jT isT) (eV 0)))) (tV (e2 gNe (eB dN [(eV 0)]) (eC (.int 3))))) (sR (eC (.bl false))) sNx)
  (aC (sIf (tOr (b8 (tV (eF oz [(e2 gIx (eV 0) (eC (.int 1)))]))) (b8 (tV (eF zM [(e2 gIx (eV 0) (eC (.int 0))),(e2 gIx (eV 0) (eC (.int 2)))])))) (sR (eC (.bl false))) sNx)
  (sR (e2 cZ (eC (.int 0)) (eF rm [(e2 gIx (eV 0) (eC (.int 0))),(e2 gIx (eV 0) (eC (.int 2))),(e2 gIx (eV 0) (eC (.int 1)))])))))
noncomputable def zO:List Dat->Option RV:=fn 1 0
  (sIf (b8 (tV (eF zN [(eV 0)]))) (fun _=>none) sNx)
noncomputable def zP:List Dat->Option RV:=fn 2 0
  (aC (sE (eF zO [(eV 0)]))
  (sIf (b8 (tV (eF u7 [(eV 1),(eC (.int 1)),(e2 gIx (eV 0) (eC (.int 1)))]))) (fun _=>none) sNx))
noncomputable def zQ:List Dat->Option RV:=fn 3 1
  (aC (sA 3 (eF rm [(eV 0),(eV 1),(eV 2)]))
  (sR (iw [(eV 0),(eV 2),(cC (G5 (eV 1) (eV 3)) 2 (bT [4,5]) (tV (e2 gGt (eV 5) (eC (.int 0)))) (eV 4))])))
noncomputable def Ed:FS:=
  (aC (sA 7 (e2 xx (e2 bw (eV 5) (eV 6)) (eC (.int 2))))
  (sIf (tV (eF Bu [(eV 0),(eSl (eV 1) (some (eV 7)) none),(eV 2),(eV 3),(eV 4)])) (sA 5 (eV 7)) (sA 6 (eV 7))))
noncomputable def rz:List Dat->Option RV:=fn 5 3
  (aC (sIf (b8 (tV (eF Bu [(eV 0),(eV 1),(eV 2),(eV 3),(eV 4)]))) (sR (eC .non)) sNx)
  (aC (sA 5 (eC (.int 0)))
  (aC (sA 6 (eB dN [(eV 1)]))
  (aC (whD (tV (e2 gGt (e2 ir (eV 6) (eV 5)) (eC (.int 1))))
  Ed 100)
  (sR (e2 gIx (e2 gIx (eV 1) (eV 5)) (eC (.int 0))))))))
noncomputable def b7:List Dat->Option Dp:=fnP 4 3
  (fC (sE (eF zP [(eV 0),(eV 3)]))
  (fC (sE (eF zK [(e2 gIx (eV 0) (eC (.int 0))),(eV 1),(eV 2)]))
  (fC (sA 4 (eF rz [(e2 gIx (eV 0) (eC (.int 0))),(e2 gIx (eV 0) (eC (.int 2))),(eV 1),(eV 2),(eV 3)]))
  (uJ (tV (e2 sC (eV 4) (eC .non))) (iw [(eC (.str [110,101,118,101,114])),(e2 gIx (eFT bg [(e2 gIx (eV 0) (eC (.int 0))),(e2 gIx (eV 0) (eC (.int 2))),(eV 1),(eV 2),(eV 3)]) (eC (.int 1)))])
  (Bk 5 bg [(e2 gIx (eV 0) (eC (.int 0))),(eF u_ [(e2 gIx (eV 0) (eC (.int 2))),(eV 4)]),(eV 1),(eV 2),(eV 3)] 0
  (Bl (qV 5 6 (pIx (lW bg [(e2 gIx (eV 0) (eC (.int 0))),(eF u_ [(e2 gIx (eV 0) (eC (.int 2))),(e2 bw (eV 4) (eC (.int 1)))]),(eV 1),(eV 2),(eV 3)]) 1))
  (Bm 5 [.e (eC (.str [115,105,110,99,101])),.e (eV 4),.w,.v 6])))))))
noncomputable def Ef:FS:=
  (aC (sA 3 (e2 f9 (e2 bw (e2 bw (e2 iy (eV 3) (eC (.int 48271))) (e2 iy (eC (.int 7919)) (eV 5))) (eC (.int 3))) (eC (.int 2147483629))))
  (aC (sA 3 (e2 f9 (e2 iy (eV 3) (eV 3)) (eC (.int 2147483587))))
  (sA 4 (e2 bw (e2 iy (eV 4) (eC (.int 2147483587))) (e2 f9 (e2 bw (e2 iy (eV 3) (eC (.int 69621))) (eV 1)) (eC (.int 2147483587)))))))
noncomputable def l0:List Dat->Option RV:=fn 2 4
  (aC (sA 2 (eC (.int 0)))
  (aC (sIf (tV (e2 gLt (eV 1) (eB dN [(eV 0)]))) (sA 2 (e2 gIx (eV 0) (eV 1))) sNx)
  (aC (sIf (tV (e2 gGe (eV 2) (e2 iz (eC (.int 10)) (eC (.int 18))))) (sR (f7 [(e2 f9 (eV 2) (e2 j_ (e2 j_ (e2 j_ (e2 j_ (e2 iz (eC (.int 10)) (eC (.int 60))) (e2 iz (eC (.int 10)) (eC (.int 60)))) (e2 iz (eC (.int 10)) (eC (.int 60)))) (e2 iz (eC (.int 10)) (eC (.int 60)))) (e2 iz (eC (.int 10)) (eC (.int 60)))))])) sNx)
  (aC (sA 3 (e2 f9 (e2 bw (e2 bw (e2 bw (eV 2) (e2 iy (e2 iy (eC (.int 104729)) (eV 1)) (eV 1))) (e2 iy (eC (.int 7)) (eV 1))) (eC (.int 11))) (eC (.int 2147483647))))
  (aC (sA 4 (eC (.int 0)))
  (aC (gX (iR1 (eC (.int 40))) (bN 5)
  Ef)
  (sR (f7 [(eV 4)]))))))))
noncomputable def bJ:List Dat->Option (RV×Dat):=fnM 2 1
  (aC (sA 2 (e2 f9 (e2 gIx (eV 0) (eC (.int 0))) (eV 1)))
  (aC (xw 0 (eC (.int 0)) (e2 xx (e2 gIx (eV 0) (eC (.int 0))) (eV 1)))
  (sR (eV 2))))
noncomputable def vc:List Dat->Option (RV×Dat):=fnM 1 0
  (sR (e2 gIx (f7 [(eC (.int 1)),(eC (.int 2)),(eC (.int 3)),(eC (.int 4)),(eC (.int 5)),(eC (.int 6)),(eC (.int 4)),(eC (.int 10))]) (eFm bJ 0 [(eC (.int 8))])))
noncomputable def Eg:FS:=
  (aC (sA 11 (eFm bJ 0 [(eV 1)]))
  (aC (sA 12 (eFm bJ 0 [(eV 1)]))
  (aC (sIf (tV (e2 gEq (eV 7) (eC (.int 1)))) (sA 12 (e2 f9 (e2 bw (eV 11) (eC (.int 1))) (eV 1))) sNx)
  (aC (sIf (tV (e2 gEq (eV 7) (eC (.int 2)))) (sA 12 (e2 f9 (e2 f9 (e2 bw (e2 bw (eV 11) (e2 f9 (eV 12) (eC (.int 2)))) (eC (.int 1))) (eB lO [(eV 1),(eC (.int 3))])) (eV 1))) sNx)
  (aC (rX 9 (iw [(eV 8),(eB lO [(eV 11),(eV 12)]),(eB lP [(eV 11),(eV 12)])]))
  (sA 8 (e2 bw (e2 bw (eV 8) (eC (.int 1))) (e2 iy (eFm bJ 0 [(eV 5)]) (eV 6)))))))))
noncomputable def rA:List Dat->Option (RV×Dat):=fnM 3 10
  (aC (sA 3 (eFm bJ 0 [(e2 bw (eV 2) (eC (.int 1)))]))
  (aC (sA 4 (eFm bJ 0 [(eC (.int 4))]))
  (aC (sA 5 (e2 gIx (f7 [(eC (.int 1)),(eC (.int 3)),(e2 iz (eC (.int 10)) (eC (.int 6))),(eC (.int 1000))]) (eV 4)))
  (aC (sA 6 (e2 gIx (f7 [(eC (.int 1)),(e2 iz (eC (.int 10)) (eC (.int 25)))]) (eB mz [(e2 gEq (eV 4) (eC (.int 3)))])))
  (aC (sA 7 (eFm bJ 0 [(eC (.int 4))]))
  (aC (sA 8 (e2 iy (eFm bJ 0 [(eV 5)]) (eV 6)))
  (aC (sA 9 (f7 []))
  (aC (gX (iR1 (eV 3)) (bN 10)
  Eg)
  (sR (eV 9))))))))))
noncomputable def zR:List Dat->Option RV:=fn 2 0
  (sR (bB 0 1 (bN 2) (tV (e2 gGe (e2 gIx (eV 2) (eC (.int 0))) (eV 1))) (eV 2)))
noncomputable def zS:List Dat->Option RV:=fn 1 0
  (sR (eO (e1 (jT isI) (eV 0)) (xu (e1 (jT isB) (eV 0)))))
noncomputable def oA:List Dat->Option RV:=fn 1 0
  (sR (eB rY [(bB 0 1 (bN 1) dZ (eF zS [(eV 1)]))]))
noncomputable def vd:List Dat->Option RV:=fn 2 0
  (sR (bB 0 1 (bN 2) (tV (e2 gNe (e2 gIn (e2 gIx (eV 2) (eC (.int 1))) (eV 1)) (e2 gIn (e2 gIx (eV 2) (eC (.int 2))) (eV 1)))) (e2 gIx (eV 2) (eC (.int 0)))))
noncomputable def Eh:FS:=
  (lT 4 (e2 gIx (eV 5) (eC (.int 0))) (iw [(e2 gIx (eV 5) (eC (.int 1))),(e2 gIx (eV 5) (eC (.int 2)))]))
noncomputable def Ei:FS:=
  (aC (sIf (tOr (tV (e2 qP (eV 7) (eV 4))) (tOr (tV (e2 cZ (eV 6) (e2 gDx (eV 4) (eV 7)))) (tV (e2 gEq (e2 gIx (e2 gDx (eV 4) (eV 7)) (eC (.int 0))) (e2 gIx (e2 gDx (eV 4) (eV 7)) (eC (.int 1))))))) (sR (eC (.bl false))) sNx)
  (sA 6 (e2 ir (eB qQ [(e2 gDx (eV 4) (eV 7))]) (eV 6))))
noncomputable def zT:List Dat->Option RV:=fn 4 4
  (aC (sIf (tOr (b8 (tV (e1 (jT isL) (eV 3)))) (tOr (b8 (tV (eF oA [(eV 3)]))) (tV (e2 gNe (e1 fm (eV 3)) (eB dN [(eV 3)]))))) (sR (eC (.bl false))) sNx)
  (aC (sA 4 eDn)
  (aC (gX (iS (eV 0)) (bN 5)
  Eh)
  (aC (sA 6 (eV 1))
  (aC (gX (iS (eV 3)) (bN 7)
  Ei)
  (sR (e2 gEq (eV 6) (eV 2))))))))
noncomputable def Ej:FS:=
  (aC (sIf (b8 (tV (eF zT [(eV 0),(eV 1),(eV 2),(eV 5)]))) (sR (eC (.bl false))) sNx)
  (A5 4 (eV 5)))
noncomputable def zU:List Dat->Option RV:=fn 4 2
  (aC (sIf (b8 (tV (e1 (jT isL) (eV 3)))) (sR (eC (.bl false))) sNx)
  (aC (sA 4 (f7 []))
  (aC (gX (iS (eV 3)) (bN 5)
  Ej)
  (sR (e2 gEq (e1 fm (eV 4)) (eB dN [(eV 4)]))))))
noncomputable def ve:List Dat->Option RV:=fn 4 0
  (aC (sIf (tOr (b8 (tV (e1 (jT isT) (eV 1)))) (tOr (b8 (tV (eF oA [(eV 1)]))) (tV (e2 gNe (eB qJ [(eV 1)]) (e1 eX (eV 1)))))) (sR (eC (.bl false))) sNx)
  (sR (eO (eB rY [(bB 1 1 (bN 4) dZ (f_ gLe gLt (eC (.int 0)) (eV 4) (eV 0)))]) (eO (e2 gIn (eV 2) (eV 1)) (e2 cZ (eV 3) (eV 1))))))
noncomputable def vf:List Dat->Option RV:=fn 6 1
  (aC (sIf (tOr (b8 (tV (e1 (jT isT) (eV 5)))) (tV (e2 gLt (eB dN [(eV 5)]) (eC (.int 2))))) (sR (eC (.bl false))) sNx)
  (aC (sIf (tV (e2 gEq (e2 gIx (eV 5) (eC (.int 0))) (eC (.str [110,101,118,101,114])))) (sR (eO (e2 gEq (eB dN [(eV 5)]) (eC (.int 2))) (eO (eF ve [(eV 0),(e2 gIx (eV 5) (eC (.int 1))),(eV 2),(eV 3)]) (e2 gLt (eB dN [(eF vd [(eV 1),(e2 gIx (eV 5) (eC (.int 1)))])]) (eV 4))))) sNx)
  (aC (sIf (tOr (tV (e2 gNe (e2 gIx (eV 5) (eC (.int 0))) (eC (.str [115,105,110,99,101])))) (tOr (tV (e2 gNe (eB dN [(eV 5)]) (eC (.int 4)))) (b8 (tV (eF zS [(e2 gIx (eV 5) (eC (.int 1)))]))))) (sR (eC (.bl false))) sNx)
  (aC (sA 6 (e2 gIx (eV 5) (eC (.int 1))))
  (aC (sIf (tOr (b8 (tV (eF zU [(eF zR [(eV 1),(eV 6)]),(eV 2),(eV 3),(e2 gIx (eV 5) (eC (.int 2)))]))) (tV (e2 gNe (eB dN [(e2 gIx (eV 5) (eC (.int 2)))]) (eV 4)))) (sR (eC (.bl false))) sNx)
  (sR (eO (eF ve [(eV 0),(e2 gIx (eV 5) (eC (.int 3))),(eV 2),(eV 3)]) (e2 gLt (eB dN [(eF vd [(eF zR [(eV 1),(e2 bw (eV 6) (eC (.int 1)))]),(e2 gIx (eV 5) (eC (.int 3)))])]) (eV 4)))))))))
noncomputable def Ek:FS:=
  (aC (sA 6 (eFm bJ 0 [(eV 1)]))
  (aC (sA 7 (e2 f9 (e2 bw (e2 bw (eV 6) (eC (.int 1))) (eFm bJ 0 [(e2 ir (eV 1) (eC (.int 1)))])) (eV 1)))
  (aC (rX 3 (iw [(eV 4),(eB lO [(eV 6),(eV 7)]),(eB lP [(eV 6),(eV 7)])]))
  (sA 4 (e2 bw (e2 bw (eV 4) (eC (.int 1))) (eFm bJ 0 [(eC (.int 3))]))))))
noncomputable def vg:List Dat->Option (RV×Dat):=fnM 3 5
  (aC (sA 3 (f7 []))
  (aC (sA 4 (eFm bJ 0 [(eC (.int 9))]))
  (aC (gX (iR1 (eV 2)) (bN 5)
  Ek)
  (sR (eV 3)))))
noncomputable def yd:FS:=
  (aC (sA 2 (eF l0 [(eV 0),(eV 1)]))
  (aC (sA 3 (eB lP [(eC (.int 2)),(eFm vc 2 [])]))
  (aC (sA 4 (e2 bw (eC (.int 1)) (eFm bJ 2 [(eC (.int 6))])))
  (aC (sA 5 (eFn rA (eF l0 [(eV 0),(e2 bw (eV 1) (eC (.int 1)))]) [(eV 3),(eC (.int 16))]))
  (aC (sIf (tV (e2 gEq (eFm bJ 2 [(eC (.int 8))]) (eC (.int 7)))) (aC (sA 3 (eC (.int 10)))
  (aC (sA 4 (eC (.int 6)))
  (sA 5 (eFn vg (eF l0 [(eV 0),(e2 bw (eV 1) (eC (.int 1)))]) [(eC (.int 10)),(e2 bw (eC (.int 40)) (eFm bJ 2 [(eC (.int 21))]))])))) sNx)
  (aC (sA 6 (e2 bw (eC (.int 1)) (eFm bJ 2 [(eV 4)])))
  (aC (sA 7 (eF zQ [(eV 3),(eV 5),(eV 4)]))
  (aC (sA 8 (eB qJ [(e2 gIx (eV 7) (eC (.int 2)))]))
  (aC (sA 2 (eF l0 [(eV 0),(e2 bw (eV 1) (eC (.int 2)))]))
  (aC (sA 9 (eFm bJ 2 [(eV 3)]))
  (aC (sA 10 (e2 f9 (e2 bw (e2 bw (eV 9) (eC (.int 1))) (eFm bJ 2 [(e2 ir (eV 3) (eC (.int 1)))])) (eV 3)))
  (iG 11 b7 [(eV 7),(eV 9),(eV 10),(eV 6)]
  (mIf 11 (b8 (tV (eF vf [(eV 3),(eV 8),(eV 9),(eV 10),(eV 6),(eV 11)]))) (sR (eC (.bl false)))
  (qu (cA 11 12 (eB n6 [(eV 11)]))
  (qu (cIf 11 (tV (e2 gEq (e2 gIx (eV 11) (eC (.int 0))) (eC (.str [115,105,110,99,101])))) (uI (n_ 11 2 13)
  (x8 2)) cNx)
  (mIf 11 (tOr (tV (e2 gNe (eB n6 [(eFT b7 [(eV 7),(eV 9),(eV 10),(eV 6)])]) (eV 12))) (tV (e2 gNe (eV 7) (iw [(eV 3),(eV 4),(eV 8)])))) (sR (eC (.bl false)))
  (mIf 11 (tV (e2 gNe (kh (kh (eFT b7 [(eV 7),(eV 10),(eV 9),(eV 6)]) none (some (eC (.int 2)))) none (some (e2 bw (eC (.int 1)) (eB mz [(e2 gEq (e2 gIx (eV 11) (eC (.int 0))) (eC (.str [115,105,110,99,101])))])))) (kh (eV 11) none (some (e2 bw (eC (.int 1)) (eB mz [(e2 gEq (e2 gIx (eV 11) (eC (.int 0))) (eC (.str [115,105,110,99,101])))])))))) (sR (eC (.bl false)))
  (A_ sNx))))))))))))))))))
noncomputable def oB:List Dat->Option RV:=fn 1 13
  (aC (gX (iRs (eC (.int 0)) (eB lP [(eC (.int 1)),(eB lO [(eB dN [(eV 0)]),(eC (.int 9))])]) (eC (.int 3))) (bN 1)
  yd)
  (sR (eC (.bl true))))
end P
local macro_rules|`(tactic|trivial)=>`(tactic|first | (dsimp only[List.set];first | done | rfl) | rfl)
local macro_rules | `(tactic| array_get_dec)=>`(tactic| first | with_reducible refine Dm.Wv ?_ | with_reducible refine Dm.T_ ?_ | ((with_reducible apply Dm.S_);(focus rfl)) | ((with_reducible apply Dm.WU);(focus rfl)) | with_reducible refine Dm.V_ ?_ | (refine Dm.Wy ?_ (by trivial)) | (refine Dm.WQ ?_ (by trivial)) | (refine Dm.WA.slot ?_ rfl (by trivial)) | with_reducible refine Dm.WC ?_ (by decide) | with_reducible refine Dm.WL ?_ | with_reducible refine Dm.WD ?_ | with_reducible refine Dm.WW ?_ | with_reducible refine Dm.Yd ?_ | with_reducible refine Dm.W6 ?_ | with_reducible refine Dm.Yn ?_ | (refine Dm.Wx ?_) | (refine Dm.dW.mk ?_) | with_reducible refine Dm.W5 ?_ | with_reducible refine Dm.WK ?_ | with_reducible refine Dm.U_ ?_ | with_reducible refine Dm.m_ ?_ | with_reducible refine Dm.WM ?_ | with_reducible refine Dm.WE ?_ | with_reducible refine Dm.Xy ?_ | with_reducible refine Dm.Xg ?_ | with_reducible refine Dm.W8 ?_ | with_reducible refine Dm.Ys ?_ | with_reducible refine Dm.W9 ?_ | with_reducible refine Dm.We.Or ?_ | with_reducible refine Dm.X_ ?_ | with_reducible refine Dm.Yv ?_ | with_reducible refine Dm.We.SlT ?_ | with_reducible refine Dm.Wp.none ?_ | with_reducible refine Dm.Wp.some ?_ | (refine Dm.Wsl.A (DV:=Dm.Dat.int) ?_ rfl) | (refine Dm.Wsl.mk ?_ rfl) | (refine Dm.WZ ?_ rfl (by trivial) (by exact Nat.le_of_ble_eq_true rfl)) | (refine Dm.WJ ?_) | (refine Dm.Xo ?_) | (refine Dm.Wk.slot ?_ rfl (by trivial)) | with_reducible refine Dm.X7 ?_ | with_reducible refine Dm.YX ?_ | with_reducible refine Dm.XJ ?_ | (refine Dm.Sk ?_ rfl) | (refine Dm.yb rfl ?_) | (refine Dm.mO ?_ rfl (by trivial) ?_) | (refine Dm.Xq ?_ rfl) | (refine Dm.oh ?_ rfl (by trivial) ?_) | with_reducible refine Dm.Ws.U ?_ | (refine Dm.R0 ?_ rfl (by trivial)) | with_reducible refine Dm.WN ?_ | (refine Dm.YB ?_) | (refine Dm.Ye ?_) | (refine Dm.Xk ?_ rfl) | with_reducible refine Dm.WO ?_ | with_reducible refine Dm.Ws.bk ?_ | with_reducible refine Dm.Ws.ct ?_ | with_reducible refine Dm.Xn ?_ | with_reducible refine Dm.W2 ?_ | with_reducible refine Dm.Xx ?_ | with_reducible refine Dm.Wi.L ?_ | with_reducible refine Dm.Xw ?_ | with_reducible refine Dm.Y3 ?_ | (refine Dm.fG ?_) | (refine Dm.QM ?_) | (refine Dm.W7 ?_ rfl rfl) | (refine Dm.Xh ?_ rfl rfl) | (refine Dm.Wg2.Sf ?_ rfl rfl ?_) | (refine Dm.Wg2.Sg ?_ rfl rfl ?_) | (refine Dm.Wg2.eqb ?_ rfl rfl) | (refine Dm.X3 ?_ rfl rfl) | (refine Dm.Wg2.R3 ?_ rfl rfl) | (refine Dm.Wg2.isb ?_ rfl rfl) | (refine Dm.Xm ?_ rfl rfl) | (refine Dm.YE ?_ rfl rfl) | (refine Dm.Xz ?_ rfl rfl) | (refine Dm.XT ?_ rfl rfl) | (refine Dm.WH ?_ rfl rfl) | (refine Dm.Wg2.Sm ?_ rfl rfl ?_) | (refine Dm.Wg2.Sh ?_ rfl rfl ?_) | (refine Dm.Yi ?_ rfl rfl ?_) | (refine Dm.W_ ?_ rfl rfl) | (refine Dm.Xs ?_ rfl rfl (by first | exact Or.inl (by decide) | exact Or.inr (by decide))) | (refine Dm.Xs ?_ rfl rfl ?_) | (refine Dm.XG ?_ rfl rfl (by decide)) | (refine Dm.XG ?_ rfl rfl ?_) | (refine Dm.W4 ?_ rfl rfl (by decide)) | (refine Dm.W4 ?_ rfl rfl ?_) | (refine Dm.XD ?_ rfl rfl) | (refine Dm.XQ ?_ rfl rfl) | (refine Dm.Wg2.inP ?_ rfl rfl) | (refine Dm.Yh ?_ rfl rfl) | (refine Dm.Ww ?_ rfl rfl rfl) | (refine Dm.Xe (DV:=Dm.Dat.int) ?_ rfl) | (refine Dm.YO ?_ rfl) | (refine Dm.YW ?_ rfl) | (refine Dm.Xi ?_ rfl) | (refine Dm.Xj ?_ rfl) | (refine Dm.XY ?_ rfl) | (refine Dm.Yc ?_ rfl) | (refine Dm.XW ?_ rfl ?_) | (refine Dm.Wg1.Sn (DV:=Dm.Dat.int) ?_ rfl) | (refine Dm.W0 ?_ rfl rfl))
namespace P
open Dm Fl
section
variable{r:List Tie}{n:Nat}{a b:Int}{Q:Val->Env->Prop}{ws:List (List Step)}{h:List (Int×Int)}{N:List Tie}{j:Nat}{R:Int->List Step}{S:List Int}{s:Step}{o p:Option Dat}{k:Int}{w:List Step}{ms:List Int}{ρ:Env}{α:Type}{ns:List Int}{K:RV->Prop}{f:Int->Int}{d:Dat}{x:Int}{m:Int}{i:Int}{y:Int}{t:Tie}{it:FI}
noncomputable def bZ(t:Tie):Dat:=.tup [.int t.m,.int t.a,.int t.b]
noncomputable def aL(r:List Tie):Dat:=.lst (r.map bZ)
noncomputable def bU(s:Step):Dat:=.tup [.int s.1,.int s.2]
noncomputable def cO(w:List Step):Dat:=.lst (w.map bU)
def Pl(n:Nat)(r:List Tie):Prop:=∀t∈r,0<=t.a/\t.a<n/\0<=t.b/\t.b<n
noncomputable def cP(x:Int)(t:Tie):Option Step:=if t.a=t.b then none else if t.a=x then some (t.m,t.b) else if t.b=x then some (t.m,t.a) else none
noncomputable def aF(r:List Tie)(x:Int):List Step:=r.filterMap (cP x)
noncomputable def ck(n:Nat)(r:List Tie):List (List Dat):=(SH n).map fun i:Nat=>(aF r i).map bU
theorem zV{i e:FE}{ρ ρ1 ρ2 ρ3:Env}{rows:List (List Dat)}{m:Nat}{row:List Dat}{x:Val}(h1:i ρ=some (.val (.int k),ρ1))(h2:ixN rows.length k=some m)(h3:rows[m]?=some row)(h4:e ρ1=some (x,ρ2))(h5:tk ρ2 x=some (d,ρ3))(h6:row.length<SZ) :
  xO i e ρ rows=some (ρ3,rows.set m (row++[d])):=by
 unfold xO;rw[h1];dsimp only;rw[h2];dsimp only;rw[h3];dsimp only;rw[h4];dsimp only;rw[h5];dsimp only;rw[if_pos h6]
theorem kq(r:List Tie)(t:Tie)(x:Int):aF (r++[t]) x=aF r x++(cP x t).toList:=by
 unfold aF;rw[List.filterMap_append];cases h:cP x t with
 |none=>simp[h]
 |some s=>simp[h]
theorem El(h0:0<=k)(h1:k<n):ixN n k=some k.toNat:=by unfold ixN;rw[if_pos h0,if_pos h1]
theorem gU(n:Nat)(r:List Tie)(i:Nat)(h:i<n):(ck n r)[i]?=some ((aF r i).map bU):=by unfold ck;rw[SS,Ua h];rfl
theorem dH(n:Nat)(r:List Tie):(ck n r).length=n:=by simp[ck]
theorem d9(r:List Tie)(x:Int):(aF r x).length<=r.length:=List.length_filterMap_le _ _
theorem ye(n:Nat)(r:List Tie)(t:Tie)(h:t.a≠t.b)(a0:0<=t.a)(a1:t.a<n)(b0:0<=t.b)(b1:t.b<n) :
  ((ck n r).set t.a.toNat ((aF r t.a).map bU++[bU (t.m,t.b)])).set t.b.toNat ((aF r t.b).map bU++[bU (t.m,t.a)])=ck n (r++[t]):=by
 apply UQ;intro i;by_cases hi:i<n
 ·rw[gU _ _ _ hi,kq,S0];by_cases eb:t.b.toNat=i
  ·have e:(i:Int)=t.b:=by omega
   rw[<- eb,SR (by rw[Td,dH];omega),eb,e];have:cP t.b t=some (t.m,t.a):=by unfold cP;rw[if_neg h,if_neg (fun z=>h z),if_pos rfl]
   rw[this];rfl
  ·rw[eg eb];by_cases ea:t.a.toNat=i
   ·have e:(i:Int)=t.a:=by omega
    rw[<- ea,SR (by rw[dH];omega),ea,e];have:cP t.a t=some (t.m,t.b):=by unfold cP;rw[if_neg h,if_pos rfl]
    rw[this];rfl
   ·rw[eg ea,gU _ _ _ hi];have:cP i t=none:=by unfold cP;rw[if_neg h,if_neg (by omega),if_neg (by omega)]
    rw[this];simp
 ·rw[Tj (by rw[Td,Td,dH];omega),Tj (by rw[dH];omega)]
theorem yf(n:Nat)(r:List Tie)(t:Tie)(h:t.a=t.b):ck n (r++[t])=ck n r:=by
 unfold ck;apply U1;intro i _;rw[kq];have:cP i t=none:=by unfold cP;rw[if_pos h]
 rw[this];simp
theorem Bv(n:Nat)(r:List Tie)(t:Tie)(hl:r.length<1000)(a0:0<=t.a)(a1:t.a<n)(b0:0<=t.b)(b1:t.b<n)(c0 c1 c2:Cell) :
  ko [c0,c1,c2,.sh (.int t.m),.sh (.int t.a),.sh (.int t.b)] (ck n r)=some ([c0,c1,c2,.sh (.int t.m),.sh (.int t.a),.sh (.int t.b)],ck n (r++[t])):=by
 have ht:tV (e2 gNe (eV 4) (eV 5)) [c0,c1,c2,.sh (.int t.m),.sh (.int t.a),.sh (.int t.b)]=some (!decide (t.a=t.b),[c0,c1,c2,.sh (.int t.m),.sh (.int t.a),.sh (.int t.b)]):=by unfold tV e2 eV;simp[pk,sU,RV.bD]
 unfold ko nIf;rw[ht];by_cases h:t.a=t.b
 ·rw[decide_eq_true h];rw[yf n r t h];rfl
 ·rw[decide_eq_false h];show A6 _ _ _ _=_;unfold A6;have k1:=(d9 r t.a)
  have k2:=(d9 r t.b)
  have hz:SZ=100000:=rfl;have ea:((t.a.toNat:Nat):Int)=t.a:=by omega
  have eb:((t.b.toNat:Nat):Int)=t.b:=by omega
  rw[zV (k:=t.a) (m:=t.a.toNat) (row:=(aF r t.a).map bU) (d:=bU (t.m,t.b)) (ρ3:=[c0,c1,c2,.sh (.int t.m),.sh (.int t.a),.sh (.int t.b)]) rfl (by rw[dH];exact El a0 a1) (by rw[gU _ _ _ (by omega),ea]) rfl rfl (by rw[Ss];omega)];dsimp only;rw [zV (k:=t.b) (m:=t.b.toNat) (row:=(aF r t.b).map bU) (d:=bU (t.m,t.a)) (ρ3:=[c0,c1,c2,.sh (.int t.m),.sh (.int t.a),.sh (.int t.b)]) rfl (by rw [Td,dH];exact El b0 b1)
   (by rw[eg (by omega),gU _ _ _ (by omega),eb]) rfl rfl (by rw[Ss];omega)]
  rw[ye n r t h a0 a1 b0 b1]
theorem oE(n:Nat)(c0 c1 c2:Cell):∀(q p:List Tie) (c3 c4 c5:Cell),Pl n q->p.length+q.length<=1000 ->
  ∃c3' c4' c5',gw (bT [3,4,5]) ko (q.map bZ) [c0,c1,c2,c3,c4,c5] (ck n p)=some ([c0,c1,c2,c3',c4',c5'],ck n (p++q))
 |[],p,c3,c4,c5,_,_=>⟨c3,c4,c5,by rw[Tu];rfl⟩
 |t::q,p,c3,c4,c5,hp,hl=>by obtain⟨a0,a1,b0,b1⟩:=hp t Sw;rw[S1]at hl;obtain⟨c3',c4',c5',e⟩:=oE n c0 c1 c2 q (p++[t]) (.sh (.int t.m)) (.sh (.int t.a)) (.sh (.int t.b)) (fun u hu=>hp u (Sy _ hu)) (by rw[SJ,Uv];omega);refine⟨c3',c4',c5',?_⟩;rw[Sq,gw];show (match ko [c0,c1,c2,.sh (.int t.m),.sh (.int t.a),.sh (.int t.b)] (ck n p) with | none=>none | some (ρ2,r2)=>gw (bT [3,4,5]) ko (q.map bZ) ρ2 r2)=_;rw[Bv n p t (by omega) a0 a1 b0 b1];dsimp only;rw[e,Uy];rfl
theorem Em(pre:Env)(k:Nat)(hk:pre.length=k)(h0:k≠0):∀(ds:List Dat) (c:Cell),∃c',nMk (bN k) ds (pre++[c])=some (pre++[c'])
 |[],c=>⟨c,rfl⟩
 |d::ds,c=>by
  obtain⟨c',e⟩:=Em pre k hk h0 ds (.sh d);refine⟨c',?_⟩;rw[nMk];have:bN k d (pre++[c])=some (pre++[.sh d]):=by unfold bN;rw[if_neg h0,Uw _ _ (by omega)];simp[hk]
  rw[this];exact e
noncomputable def bK(n:Nat)(R:Int->List Step):Dat:=.lst ((SH n).map fun i:Nat=>cO (R i))
theorem vh(n:Nat)(hn:n<=1000)(r:List Tie)(hr:Pl n r)(hl:r.length<=1000):D7 [.int n,aL r]=some (.new (bK n (aF r))):=by
 obtain⟨c3,c4,c5,e⟩:=oE n (.sh (.int n)) (.sh (aL r)) .un r [] .un .un .un hr (by simpa using hl);obtain⟨c',e2⟩:=Em [.sh (.int n),.sh (aL r),.un,.un,.un,.un] 6 rfl (by decide) (ups 0 n) .un;have h0:ck n []=Sv n []:=by
  unfold ck aF;apply UQ;intro i;by_cases hi:i<n
  ·rw[SS,Ua hi,Tz,if_pos hi];rfl
  ·rw[Tj (by simp;omega),Tj (by simp;omega)]
 have hu:(ups 0 n).length=n:=by simp[ups]
 have e1:iR1 (eV 0) [.sh (.int n),.sh (aL r),.un,.un,.un,.un]=some (ups 0 n,[.sh (.int n),.sh (aL r),.un,.un,.un,.un]):=by show (if (n:Int)<=BIG/\-BIG<=(n:Int) then some (ups 0 (n:Int).toNat,_) else none)=_;rw[if_pos (by unfold BIG;omega)];rfl
 rw[h0,Vp]at e;have en:nN 2 (iR1 (eV 0)) 1 (bN 6) (qt (iS (eV 1)) (bT [3,4,5]) ko) [.sh (.int n),.sh (aL r),.un,.un,.un,.un]=some (.nx [.sh (.int n),.sh (aL r),.ow (bK n (aF r)),c3,c4,c5]):=by
  unfold nN;rw[if_neg (by decide),e1];dsimp only;rw[if_pos (by rw[hu];unfold SZ;omega)];show (match nMk (bN 6) (ups 0 n) ([.sh (.int n),.sh (aL r),.un,.un,.un,.un]++[.un]) with | none=>none | some ρ2=>_)=_;rw[e2];dsimp only;rw[hu];show (match qt (iS (eV 1)) (bT [3,4,5]) ko [.sh (.int n),.sh (aL r),.un,.un,.un,.un] (Sv n []) with | none=>none | some (ρ3,r3)=>_)=_;have:qt (iS (eV 1)) (bT [3,4,5]) ko [.sh (.int n),.sh (aL r),.un,.un,.un,.un] (Sv n [])=some ([.sh (.int n),.sh (aL r),.un,c3,c4,c5],ck n r):=e;rw[this];have e3:(ck n r).map Dat.lst=(SH n).map fun i:Nat=>cO (aF r i):=by unfold ck;rw[TN];rfl
  show some (Out.nx [.sh (.int n),.sh (aL r),.ow (.lst ((ck n r).map Dat.lst)),c3,c4,c5])=_;rw[e3];rfl
 apply WI;unfold D7
 (refine Dm.WG ?_ rfl rfl;and_intros)
 refine Wv ⟨_,en,?_⟩;refine WN (WU rfl (Xk ?_ rfl));rfl
noncomputable def hdF(h:List (Int×Int)):Hd:=fun m=>(h.find? fun e=>decide (e.1=m)).map (·.2)
noncomputable def hk(h:List (Int×Int)):List Int:=h.map (·.1)
noncomputable def hv(h:List (Int×Int)):List Dat:=h.map fun e=>Dat.int e.2
noncomputable def bC(h:List (Int×Int)):Dat:=.dct (hk h) (hv h)
theorem mQ(h:List (Int×Int))(m:Int):bA (hk h) (hv h) m=(hdF h m).map Dat.int:=by
 unfold hk hv hdF
 induction h with
 |nil=>rfl
 |cons e h ih=>
  rw[Sq,Sq,bA,Ue];by_cases q:e.1=m
  ·rw[if_pos q,decide_eq_true q];rfl
  ·rw[if_neg q,decide_eq_false q];exact ih
theorem sW:(hdF h m).isSome=decide (m∈hk h):=by
 unfold hdF hk
 induction h with
 |nil=>rfl
 |cons e h ih=>
  rw[Ue];by_cases q:e.1=m
  ·rw[decide_eq_true q];simp[q]
  ·rw[decide_eq_false q];have q':¬m=e.1:=fun z=>q z.symm;simp only[Sq,SD,q',false_or];exact ih
theorem Mj(o:Option Int)(y:Int):gNe ((o.map Dat.int).getD .non) (.int y)=vB (!decide (o=some y)):=by
 cases o with
 |none=>rfl
 |some z=>
  show gNe (.int z) (.int y)=_;rw[sU];have:(z=y)=(some z=some y):=by simp
  simp only[this]
theorem Mk(o:Option Int)(y:Int):gEq ((o.map Dat.int).getD .non) (.int y)=vB (decide (o=some y)):=by
 cases o with
 |none=>rfl
 |some z=>
  show gEq (.int z) (.int y)=_;rw[zA];have:(z=y)=(some z=some y):=by simp
  simp only[this]
noncomputable def vj(h:List (Int×Int))(R:Int->List Step):Int->List Step:=fun x=>(R x).filter fun s=>!decide (hdF h s.1=some s.2)
noncomputable def vm(h:List (Int×Int))(R:Int->List Step):Int->List Step:=fun x=>(R x).filter fun s=>decide (hdF h s.1=some s.2)
theorem zW(g:Dat->Dat->Option RV)(p:Option Int->Int->Bool)(hg:∀o y,g ((o.map Dat.int).getD .non) (.int y)=vB (p o y))(h:List (Int×Int))(A:Cell)(w:List Step)(hl:w.length<=1000) :
  We (bB 2 1 (bN 3) (tV (e2 g (lS (eV 1) (e2 gIx (eV 3) (eC (.int 0)))) (e2 gIx (eV 3) (eC (.int 1))))) (eV 3)) [A,.sh (bC h),.sh (cO w)] fun v ρ'=>Wk ρ' v fun d ρ''=>d=cO (w.filter fun s=>p (hdF h s.1) s.2)/\ρ''=[A,.sh (bC h),.sh (cO w)]:=by
 refine Yr bU w (fun s=>p (hdF h s.1) s.2) id bU (d:=cO w) ?_ rfl rfl rfl (by decide) (by unfold SZ;omega) (fun s _=>?_) fun s _ _=>?_
 ·rw[Vz];exact Xo ⟨rfl,rfl⟩
 ·refine WD (T_ (YY (S_ rfl ⟨⟨_,_,rfl⟩,T_ (S_ rfl (V_ (Ww ?_ rfl rfl rfl)))⟩)));refine⟨hk h,hv h,s.1,rfl,rfl,T_ (S_ rfl (V_ (Ww ?_ rfl rfl rfl)))⟩;refine⟨_,_,_,rfl,rfl,(by rw[mQ];exact hg _ _),?_⟩;exact Wx ⟨rfl,rfl⟩
 ·exact S_ rfl (WJ ⟨rfl,rfl⟩)
theorem ie(n:Nat)(hn:n<=1000)(R:Int->List Step)(hR:∀i:Nat,i<n->(R i).length<=1000)(h:List (Int×Int)):D8 [bK n R,bC h]=some (.new (bK n (vj h R))):=by
 apply WI;unfold D8
 (refine Dm.WG ?_ rfl rfl;and_intros)
 refine WN ?_;refine Xf (fun i:Nat=>cO (R i)) (SH n) id (fun i:Nat=>cO (vj h R i)) (d:=bK n R) ?_ rfl rfl rfl (by decide) (by rw[S9];unfold SZ;omega) fun i hi=>?_
 ·rw[Vz];rfl
 ·exact zW gNe (fun o y=>!decide (o=some y)) Mj h _ (R i) (hR i (Tp.mp hi))
theorem sX(n:Nat)(hn:n<=1000)(R:Int->List Step)(hR:∀i:Nat,i<n->(R i).length<=1000)(h:List (Int×Int)):D9 [bK n R,bC h]=some (.new (bK n (vm h R))):=by
 apply WI;unfold D9
 (refine Dm.WG ?_ rfl rfl;and_intros)
 refine WN ?_;refine Xf (fun i:Nat=>cO (R i)) (SH n) id (fun i:Nat=>cO (vm h R i)) (d:=bK n R) ?_ rfl rfl rfl (by decide) (by rw[S9];unfold SZ;omega) fun i hi=>?_
 ·rw[Vz];rfl
 ·exact zW gEq (fun o y=>decide (o=some y)) Mk h _ (R i) (hR i (Tp.mp hi))
theorem HP(ks:List Int)(i:Int):(ks.any fun k=>decide (k=i))=decide (i∈ks):=by
 induction ks with
 |nil=>rfl
 |cons k ks ih=>
  rw[Ux,ih];by_cases h:k=i
  ·simp[h]
  ·have h':¬i=k:=fun z=>h z.symm;simp[h,h']
theorem sY{ks:List Int}{vs:List Dat}(h:i∉ks):j8 ks i=ks++[i]/\j9 ks vs i d=vs++[d]:=by unfold j8 j9;rw[HP,decide_eq_false h];exact⟨rfl,rfl⟩
theorem Bw(key:α->Int)(val:α->Dat)(xs:List α)(i:Int):bA (xs.map key) (xs.map val) i=(xs.find? fun x=>decide (key x=i)).map val:=by
 induction xs with
 |nil=>rfl
 |cons x xs ih=>
  rw[Sq,Sq,bA,Ue];by_cases h:key x=i
  ·simp[h]
  ·simp[h,ih]
theorem eZ[DecidableEq α]:∀(l m:List α),l.Nodup->(∀x∈l,x∈m)->l.length<=m.length
 |[],_,_,_=>S6 _
 |x::l,m,h,k=>by obtain⟨h1,h2⟩:=SV.mp h;have hx:x∈m:=k x Sw;have:=eZ l (m.erase x) h2 fun y hy=>(List.mem_erase_of_ne (fun e:y=x=>h1 (by rw[<- e];exact hy))).mpr (k y (Sy _ hy));rw[List.length_erase_of_mem hx]at this;have:=List.length_pos_of_mem hx;simp;omega
noncomputable def places(n:Nat):List Int:=(SH n).map fun i:Nat=>(i:Int)
theorem places_len(n:Nat):(places n).length=n:=by simp[places]
theorem yg(n:Nat)(x:Int):x∈places n↔0<=x/\x<n:=by
 unfold places;rw[SW];constructor
 ·rintro⟨i,hi,rfl⟩;have:=Tp.mp hi;omega
 ·rintro⟨h0,h1⟩;exact⟨x.toNat,Tp.mpr (by omega),by omega⟩
noncomputable abbrev Sr:=List (Int×List Step)
noncomputable def sk(s:Sr):List Int:=s.map (·.1)
noncomputable def sv(s:Sr):List Dat:=s.map fun e=>cO e.2
def InR(R:Int->List Step)(p:Int)(s:Step):Prop:=s∈R p
structure oF(R:Int->Step->Prop)(a:Int)(w:List Step)(p:Int):Prop where
 way:Way R a w p
 nd:(a::w.map (·.2)).Nodup
structure Fnd(n:Nat)(R:Int->List Step)(a:Int)(s:Sr):Prop where
 nd:(sk s).Nodup
 pl:∀x∈sk s,0<=x/\x<n
 st:a∈sk s
 way:∀e∈s,oF (InR R) a e.2 e.1/\∀x∈a::e.2.map (·.2),x∈sk s
theorem Fnd.len{a:Int}{s:Sr}(h:Fnd n R a s):s.length<=n:=by
 have:=eZ (sk s) (places n) h.nd fun x hx=>(yg n x).mpr (h.pl x hx);rw[places_len]at this
 simpa [sk] using this
theorem Fnd.Eo{a:Int}{s:Sr}(h:Fnd n R a s){e:Int×List Step}(he:e∈s):e.2.length<s.length:=by obtain⟨h1,h2⟩:=h.way e he;have:=eZ (a::e.2.map (·.2)) (sk s) h1.nd h2;simp[sk]at this;omega
theorem dj(s:Sr)(x:Int)(w:List Step):sk (s++[(x,w)])=sk s++[x]:=by simp[sk]
theorem HQ(s:Sr)(x:Int)(w:List Step):sv (s++[(x,w)])=sv s++[cO w]:=by simp[sv]
theorem sZ(s:Sr)(x:Int):(∃w,(x,w)∈s/\bA (sk s) (sv s) x=some (cO w))\/(x∉sk s/\bA (sk s) (sv s) x=none):=by
 unfold sk sv;rw[Bw (fun e:Int×List Step=>e.1) (fun e=>cO e.2) s x];cases hf:s.find? fun e=>decide (e.1=x) with
 |none=>refine Or.inr ⟨fun h=>?_,rfl⟩;obtain⟨e,he,hx⟩:=SW.mp h;have:=Vb.mp hf e he;simp[hx]at this
 |some e=>
  have h1:=List.mem_of_find?_eq_some hf;have h2:=List.find?_some hf;have h2:e.1=x:=by simpa using h2
  exact Or.inl ⟨e.2,by rw[<- h2];exact h1,rfl⟩
theorem l6(s:Sr)(x:Int):(bA (sk s) (sv s) x).isSome=decide (x∈sk s):=by
 rcases sZ s x with⟨ts,h1,h2⟩ | ⟨h1,h2⟩
 ·have:x∈sk s:=SW.mpr ⟨_,h1,rfl⟩;rw[h2,decide_eq_true this];rfl
 ·rw[h2,decide_eq_false h1];rfl
theorem Fnd.start{a:Int}(a0:0<=a)(a1:a<n):Fnd n R a [(a,[])] where
 nd:=by simp[sk]
 pl:=by intro x hx;simp[sk]at hx;subst hx;exact⟨a0,a1⟩
 st:=by simp[sk]
 way:=by intro e he;simp at he;subst he;exact⟨⟨rfl,by simp⟩,by simp[sk]⟩
theorem Fnd.step{a:Int}{s:Sr}(h:Fnd n R a s){p:Int}(hp:(p,w)∈s){u:Step}(hu:u∈R p)(hn:u.2∉sk s)(u0:0<=u.2)(u1:u.2<n):Fnd n R a (s++[(u.2,w++[u])]) where
 nd:=by rw[dj];exact Tv.mpr ⟨h.nd,by simp,fun x hx y hy=>by rw[SY.mp hy];exact fun e=>hn (e▸hx)⟩
 pl:=by
  intro x hx;rw[dj]at hx;rcases S4.mp hx with hx | hx
  ·exact h.pl x hx
  ·rw[SY.mp hx];exact⟨u0,u1⟩
 st:=by rw[dj];exact Tf _ h.st
 way:=by
  intro e he;rw[dj];rcases S4.mp he with he | he
  ·obtain⟨k1,k2⟩:=h.way e he;exact⟨k1,fun x hx=>Tf _ (k2 x hx)⟩
  ·rw[SY.mp he];obtain⟨k1,k2⟩:=h.way _ hp;refine⟨⟨k1.way.snoc hu,?_⟩,fun x hx=>?_⟩
   ·dsimp only at k1 k2 ⊢;rw[S0,<- UZ];exact Tv.mpr ⟨k1.nd,by simp,fun x hx y hy=>by rw[SY.mp hy];exact fun e:x=u.2=>hn (by rw[<- e];exact k2 x hx)⟩
   ·dsimp only at k1 k2 hx ⊢;rw[S0,<- UZ]at hx;rcases S4.mp hx with hx | hx
    ·exact Tf _ (k2 x hx)
    ·exact S5 _ (by simpa using hx)
def Done(R:Int->List Step)(K:List Int)(x:Int):Prop:=∀u∈R x,u.2∈K
noncomputable def HR(n:Nat)(R:Int->List Step)(a:Int)(s:Sr)(ps:List Int)(c4 c5:Cell):Env:=[.sh (bK n R),.sh (.int a),.ow (.dct (sk s) (sv s)),.ow (.lst (ps.map Dat.int)),c4,c5]
theorem Ml{ps:List Int}{p0:Int}{i:Nat}{e:FE}{ρ ρ2:Env}(q:Q (.val (.int p0)) ρ2)(h:ρ[i]?=some (.ow (.lst ((p0::ps).map Dat.int))))(he:e ρ=some (.val (.int 0),ρ))(hs:ρ.set i (.ow (.lst (ps.map Dat.int)))=ρ2):We (kW i e) ρ Q:=
 ⟨_,_,by unfold kW;rw[h];dsimp only;rw[he];dsimp only;rw[h];dsimp only;rw[if_pos (by unfold BIG;omega)];show some (Val.val (.int p0),ρ.set i (.ow (.lst (ps.map Dat.int))))=_;rw[hs],q⟩
theorem HS(n:Nat)(R:Int->List Step)(x:Int)(h0:0<=x)(h1:x<n):gIx (bK n R) (.int x)=some (.val (cO (R x))):=by
 unfold bK gIx;dsimp only;rw[mP (fun i:Nat=>cO (R i)) (SH n) x h0 (by rw[S9];exact h1)];have e:(((SH n)[x.toNat]'(by rw[S9];omega):Nat):Int)=x:=by rw[List.getElem_range];omega
 rw[e];rfl
theorem l7(n:Nat)(hn:n<=40)(R:Int->List Step)(hR:∀i:Int,0<=i->i<n->∀u∈R i,0<=u.2/\u.2<n)(a:Int)(a0:0<=a)(a1:a<n) :
  ∃s:Sr,u6 [bK n R,.int a]=some (.new (.dct (sk s) (sv s)))/\Fnd n R a s/\∀x∈sk s,Done R (sk s) x:=by
 suffices h:Wr (u6 [bK n R,.int a]) fun v=>∃s:Sr,v=.new (.dct (sk s) (sv s))/\Fnd n R a s/\∀x∈sk s,Done R (sk s) x by obtain⟨v,h1,s,rfl,h2⟩:=h;exact⟨s,h1,h2⟩
 unfold u6
 (refine Dm.WG ?_ rfl rfl;and_intros)
 repeat array_get_dec
 refine XC (fun k ρ=>∃(s:Sr) (ps:List Int) (c4 c5:Cell),ρ=HR n R a s ps c4 c5/\Fnd n R a s/\(∀x∈ps,x∈sk s)/\(∀x∈sk s,x∈ps\/Done R (sk s) x)/\k=ps.length+(n-s.length)/\k<=40) ?_ 100 n _ (by omega) ⟨[(a,[])],[a],_,_,rfl,Fnd.start a0 a1,by simp[sk],by simp[sk],by simp;omega,hn⟩;rintro k ρ ⟨s,ps,c4,c5,rfl,F,hps,hd,hk,So⟩;unfold HR;refine Y7 ?_;refine WU rfl ?_;refine⟨_,!(ps.map Dat.int).isEmpty,rfl,rfl,?_⟩;have len:=F.len;cases ps with
 |nil=>refine WY rfl ?_;refine WN (WU rfl (Xk ?_ rfl));exact⟨s,rfl,F,fun x hx=>(hd x hx).resolve_left (by simp)⟩
 |cons p0 ps0=>
  refine Xv rfl ?_;unfold Jp;refine Wv (WC ?_ (by decide));refine Ml (ps:=ps0) (p0:=p0) ?_ rfl rfl rfl;refine Wy ?_ (by trivial);have hp0:p0∈sk s:=hps p0 (by simp);obtain⟨q0,q1⟩:=F.pl p0 hp0;refine W2 (Xx (T_ (S_ rfl (S_ rfl (Ww ?_ rfl rfl (HS n R p0 q0 q1))))));refine WJ (fG ?_);refine W3 bU _ _ (R p0) _ _ _ _ _ (fun p q ρ=>∃(s:Sr) (ps:List Int) (c5:Cell),ρ=HR n R a s ps (.sh (.int p0)) c5/\Fnd n R a s/\(∀x∈ps,x∈sk s)/\p0∈sk s/\(∀x∈sk s,x∈ps\/x=p0\/Done R (sk s) x)/\(∀u∈p,u.2∈sk s)/\k=ps.length+1+(n-s.length)) ⟨s,ps0,_,rfl,F,fun x hx=>hps x (by simp[hx]),hp0,?_,by simp,by rw[hk];simp⟩ ?_ ?_
  ·intro x hx;rcases hd x hx with h | h
   ·rcases SD.mp h with h | h
    ·exact .inr (.inl h)
    ·exact .inl h
   ·exact .inr (.inr h)
  ·rintro p u q ρ e' ⟨s,ps,c5,rfl,F,hps,hp0,hd,hp,hk⟩;have len:=F.len;have hu:u∈R p0:=by rw[e'];simp
   obtain⟨u0,u1⟩:=hR p0 q0 q1 u hu;unfold HR;refine Dm.cD rfl (by trivial) ?_;unfold Jo;refine WL (WD (T_ (T_ (S_ rfl (V_ (Ww ?_ rfl rfl rfl))))));refine WU rfl (XQ ?_ rfl rfl);refine Wx ?_;rw[l6];refine⟨fun h=>?_,fun h=>?_⟩
   ·have hnew:=ndT h;obtain⟨w,t1,t2⟩:∃w,(p0,w)∈s/\bA (sk s) (sv s) p0=some (cO w):=by
     rcases sZ s p0 with h | h
     ·exact h
     ·exact absurd hp0 h.1
    have wl:=F.Eo t1;refine Wv (XJ (T_ (T_ (WU rfl (S_ rfl (Xd t2 ?_ rfl rfl))))));refine Xg (m_ (S_ rfl (U_ (WZ ?_ rfl rfl (by exact Th rfl)))));refine Yi ?_ rfl rfl (by rw[Ss];dsimp only at wl;simp;unfold SZ;omega);refine Xo (yb rfl (T_ (S_ rfl (V_ (Ww ?_ rfl rfl rfl)))));refine dW.mk (mO ?_ rfl (by trivial) (by simp only[sk,Ss];unfold SZ;omega));refine Xq (T_ (S_ rfl (V_ (Ww ?_ rfl rfl rfl)))) rfl;refine WJ (oh ?_ rfl (by trivial) (by rw[Ss];unfold SZ;omega));have F':=F.step t1 hu hnew u0 u1;have len':=F'.len;have em:Dat.lst (w.map bU++[bU u])=cO (w++[u]):=by simp[cO]
    obtain⟨p1,p2⟩:=sY (ks:=sk s) (vs:=sv s) (i:=u.2) (d:=cO (w++[u])) hnew;refine⟨s++[(u.2,w++[u])],ps++[u.2],.sh (bU u),?_,F',?_,?_,?_,?_,?_⟩
    ·rw[em,p1,p2,dj,HQ,S0];rfl
    ·intro x hx;rw[dj];rcases S4.mp hx with hx | hx
     ·exact Tf _ (hps x hx)
     ·exact S5 _ hx
    ·rw[dj];exact Tf _ hp0
    ·intro x hx;rw[dj]at hx ⊢;rcases S4.mp hx with hx | hx
     ·rcases hd x hx with h | h | h
      ·exact .inl (Tf _ h)
      ·exact .inr (.inl h)
      ·exact .inr (.inr fun y hy=>Tf _ (h y hy))
     ·exact .inl (S5 _ hx)
    ·intro v hv;rw[dj];rcases S4.mp hv with hv | hv
     ·exact Tf _ (hp v hv)
     ·rw[SY.mp hv];simp
    ·rw[hk];simp at len' ⊢;omega
   ·have hold:=ndF h;refine WO ?_;refine⟨s,ps,.sh (bU u),rfl,F,hps,hp0,hd,fun v hv=>?_,hk⟩;rcases S4.mp hv with hv | hv
    ·exact hp v hv
    ·rw[SY.mp hv];exact hold
  ·rintro ρ ⟨s,ps,c5,rfl,F,hps,hp0,hd,hp,hk⟩;refine⟨ps.length+(n-s.length),by omega,s,ps,_,_,rfl,F,hps,fun x hx=>?_,rfl,by omega⟩;rcases hd x hx with h | rfl | h
   ·exact .inl h
   ·exact .inr hp
   ·exact .inr h
noncomputable def l8(h:List (Int×Int))(s:Step):List (Int×Int):=if s.1∈hk h then h.filter fun e=>decide (e.1≠s.1) else h++[s]
theorem oG(h:List (Int×Int))(m:Int):hdF (h.filter fun e=>decide (e.1≠m))=put (hdF h) m none:=by
 funext x
 unfold put hdF;rw[List.find?_filter];by_cases e:x=m
 ·subst e;rw[if_pos rfl,Vb.mpr fun y _=>by simp];rfl
 ·rw[if_neg e]
  congr 1
  congr 1
  funext y
  by_cases q:y.1=x
  ·have:y.1≠m:=fun z=>e (q.symm.trans z);simp[q,e]
  ·simp[q]
theorem HU(h:List (Int×Int))(s:Step)(hn:s.1∉hk h):hdF (h++[s])=put (hdF h) s.1 (some s.2):=by
 funext x
 unfold put hdF;rw[List.find?_append];by_cases e:x=s.1
 ·subst e;rw[if_pos rfl];have:(h.find? fun e=>decide (e.1=s.1))=none:=Vb.mpr fun y hy=>by
   intro z;exact hn (SW.mpr ⟨y,hy,of_decide_eq_true z⟩)
  rw[this];simp
 ·rw[if_neg e];have e':¬s.1=x:=fun z=>e z.symm;cases hf:(h.find? fun e=>decide (e.1=x)) with
  |none=>simp[e']
  |some y=>rfl
theorem Ep(h:List (Int×Int))(s:Step):hdF (l8 h s)=gH (hdF h) s.1 s.2:=by
 unfold l8 gH;rw[sW];by_cases q:s.1∈hk h
 ·rw[if_pos q,if_pos (decide_eq_true q),oG]
 ·rw[if_neg q,if_neg (by simpa using q),HU h s q]
noncomputable def bO(h:List (Int×Int)):List Step->List (Int×Int)
 |[]=>h
 |s::w=>bO (l8 h s) w
theorem rB:∀(w:List Step) (h:List (Int×Int)),hdF (bO h w)=lZ (hdF h) w
 |[],_=>rfl
 |s::w,h=>by rw[bO,lZ,rB w,Ep]
theorem gJ:∀(w:List Step) (h:List (Int×Int)) (s:Step),bO h (w++[s])=l8 (bO h w) s
 |[],_,_=>rfl
 |_::w,h,s=>by rw[UZ,bO,bO,gJ w]
theorem mR(h:List (Int×Int))(m:Int):fu (hk h) (hv h) m=hk (h.filter fun e=>decide (e.1≠m))/\fy (hk h) (hv h) m=hv (h.filter fun e=>decide (e.1≠m)):=by
 unfold hk hv
 induction h with
 |nil=>exact⟨rfl,rfl⟩
 |cons e h ih=>
  rw[Sq,Sq,fu,fy];by_cases q:e.1=m
  ·rw[if_pos q,if_pos q,T6 (by simpa using q)];exact ih
  ·rw[if_neg q,if_neg q,T7 (by simpa using q),Sq,Sq,ih.1,ih.2];exact⟨rfl,rfl⟩
structure Hok(r:List Tie)(h:List (Int×Int)):Prop where
 nd:(hk h).Nodup
 sub:∀m∈hk h,m∈r.map (·.m)
theorem Hok.len(k:Hok r h):h.length<=r.length:=by
 have:=eZ (hk h) (r.map (·.m)) k.nd k.sub
 simpa [hk] using this
theorem Hok.nil(r:List Tie):Hok r []:=⟨by simp[hk],by simp[hk]⟩
theorem Hok.drop(k:Hok r h)(m:Int):Hok r (h.filter fun e=>decide (e.1≠m)):=by refine⟨(k.nd.sublist (Vr.map _ (Ui))),fun x hx=>k.sub x ?_⟩;obtain⟨e,he,rfl⟩:=SW.mp hx;exact SW.mpr ⟨e,(Ub.mp he).1,rfl⟩
theorem Hok.lead(k:Hok r h)(hs:s.1∈r.map (·.m)):Hok r (l8 h s):=by
 unfold l8;split
 ·exact k.drop _
 ·rename_i q;refine⟨?_,fun x hx=>?_⟩
  ·unfold hk;rw[S0];exact Tv.mpr ⟨k.nd,by simp,fun x hx y hy=>by
    have:y=s.1:=by simpa using hy
    rw[this];exact fun e=>q (e▸hx)⟩
  ·unfold hk at hx;rw[S0]at hx;rcases S4.mp hx with hx | hx
   ·exact k.sub x hx
   ·have:x=s.1:=by simpa using hx
    rw[this];exact hs
theorem Hok.Er:∀{w:List Step} {h:List (Int×Int)},Hok r h->(∀s∈w,s.1∈r.map (·.m))->Hok r (bO h w)
 |[],_,k,_=>k
 |s::w,h,k,hs=>by rw[bO];exact Hok.Er (w:=w) (k.lead (hs s Sw)) fun u hu=>hs u (Sy _ hu)
theorem qx(r:List Tie)(hl:r.length<=1000)(h:List (Int×Int))(k:Hok r h)(w:List Step)(hw:∀s∈w,s.1∈r.map (·.m)):D_ [bC h,cO w]=some (.val .non,bC (bO h w)):=by
 suffices q:WrM (D_ [bC h,cO w]) fun z d=>z=.val .non/\d=bC (bO h w) by obtain⟨z,d,h1,rfl,rfl⟩:=q;exact h1
 unfold D_;refine Xp ?_ rfl rfl;refine W2 (Xx (S_ rfl (WJ (fG ?_))));refine W3 bU _ _ w _ _ _ _ _ (fun p q ρ=>∃c2 c3,ρ=[.ow (bC (bO h p)),.sh (cO w),c2,c3]) ⟨_,_,rfl⟩ ?_ ?_
 ·rintro p s q ρ e ⟨c2,c3,rfl⟩;refine Dm.cD rfl (by trivial) ?_;have kp:Hok r (bO h p):=k.Er fun u hu=>hw u (by rw[e];exact Tf _ hu);have len:=kp.len;unfold Jq;refine WL (WD (T_ (S_ rfl (WU rfl (XD ?_ rfl rfl)))));refine Wx ?_;rw[mQ,Vg,sW];refine Xc (fun hm=>?_) fun hm=>?_
  ·obtain⟨x,hx⟩:∃x,hdF (bO h p) s.1=some x:=Option.isSome_iff_exists.mp (by rw[sW];exact decide_eq_true hm);refine Xn (Yo (k:=s.1) (d:=.int x) (by rw[mQ,hx];rfl) ?_ rfl rfl rfl);refine⟨.sh (.int s.1),.sh (.int s.2),?_⟩;rw[gJ,l8,if_pos hm,(mR _ _).1,(mR _ _).2];rfl
  ·refine XJ (S_ rfl (WJ (yb rfl (S_ rfl (dW.mk (mO ?_ rfl (by trivial) ?_))))))
   ·refine⟨.sh (.int s.1),.sh (.int s.2),?_⟩;rw[gJ,l8,if_neg hm];obtain⟨p1,p2⟩:=sY (ks:=hk (bO h p)) (vs:=hv (bO h p)) (i:=s.1) (d:=.int s.2) hm;rw[p1,p2];unfold bC hk hv;rw[S0,S0];rfl
   ·unfold hk;rw[Ss];unfold SZ;omega
 ·rintro ρ ⟨c2,c3,rfl⟩;exact⟨_,rfl,rfl,rfl⟩
theorem l9:s∈aF r x↔eY r x s:=by
 unfold aF;rw[VB];constructor
 ·rintro⟨t,ht,e⟩;unfold cP at e;split at e
  ·cases e
  rename_i PR;split at e
  ·rename_i ha;cases e;exact⟨t,ht,rfl,PR,.inl ⟨ha,rfl⟩⟩
  ·split at e
   ·rename_i hb;cases e;exact⟨t,ht,rfl,PR,.inr ⟨hb,rfl⟩⟩
   ·cases e
 ·rintro⟨t,ht,hm,PR,he⟩;refine⟨t,ht,?_⟩;unfold cP;rw[if_neg PR];rcases he with⟨h1,h2⟩ | ⟨h1,h2⟩
  ·rw[if_pos h1,hm,h2]
  ·rw[if_neg (fun z=>PR (z.trans h1.symm)),if_pos h1,hm,h2]
theorem vn(hp:Pl n r)(h:eY r x s):(0<=x/\x<n)/\0<=s.2/\s.2<n:=by obtain⟨t,ht,_,_,he⟩:=h;have:=hp t ht;omega
theorem HV(h:eY r x s):s.1∈r.map (·.m):=by obtain⟨t,ht,hm,_⟩:=h;exact SW.mpr ⟨t,ht,hm⟩
theorem s_{R:Int->Step->Prop}(hR:∀p s,R p s->eY r p s):∀{w:List Step} {x:Int},Way R x w y->∀s∈w,s.1∈r.map (·.m)
 |[],_,_,s,hs=>by cases hs
 |u::w,x,h,s,hs=>by
  rcases SD.mp hs with rfl | hs
  ·exact HV (hR _ _ h.1)
  ·exact s_ hR h.2 s hs
theorem oH{p:Int}:InR (vj h (aF r)) p s↔dS r (hdF h) p s:=by unfold InR vj dS;rw[Ub,l9];simp
theorem tu{p:Int}:InR (vm h (aF r)) p s↔Led r (hdF h) p s:=by unfold InR vm Led;rw[Ub,l9];simp
theorem Bx(w:List Step):bX (cO w)=true:=q_ _ _ fun s=>by unfold bU bX;exact lg _ (by intro x hx;simp at hx;rcases hx with rfl | rfl<;>exact Bq _)
theorem iO(n:Nat)(R:Int->List Step):bX (bK n R)=true:=q_ (fun i:Nat=>cO (R i)) _ fun i=>Bx _
noncomputable def mso(w:List Step):List Int:=w.map (·.1)
noncomputable def msD(w:List Step):Dat:=.lst ((mso w).map Dat.int)
noncomputable def bP(h:List (Int×Int)):List Int->List (Int×Int)
 |[]=>h
 |m::ms=>bP (h.filter fun e=>decide (e.1≠m)) ms
theorem l_:∀(ms:List Int) (h:List (Int×Int)) (m:Int),bP h (ms++[m])=(bP h ms).filter fun e=>decide (e.1≠m)
 |[],_,_=>rfl
 |_::ms,h,m=>by rw[UZ,bP,bP,l_ ms]
theorem ly:∀(w:List Step) (h:List (Int×Int)),hdF (bP h (mso w))=fS (hdF h) w
 |[],_=>rfl
 |s::w,h=>by show hdF (bP _ (mso w))=fS _ w;rw[ly w,oG]
theorem mh:∀(ms:List Int) (h:List (Int×Int)) (x:Int),x∉ms->hdF (bP h ms) x=hdF h x
 |[],_,_,_=>rfl
 |m::ms,h,x,hx=>by rw[bP,mh ms _ x fun z=>hx (Sy _ z),oG];unfold put;rw[if_neg fun z=>hx (by rw[z];exact Sw)]
theorem Hok.drops:∀{ms:List Int} {h:List (Int×Int)},Hok r h->Hok r (bP h ms)
 |[],_,k=>k
 |m::ms,h,k=>by rw[bP];exact Hok.drops (ms:=ms) (k.drop m)
theorem yh{H:Hd}:∀{w:List Step} {x:Int},Way (Led r H) x w y->∀s∈w,H s.1=some s.2
 |[],_,_,s,hs=>by cases hs
 |u::w,x,h,s,hs=>by
  rcases SD.mp hs with rfl | hs
  ·exact h.1.2
  ·exact yh h.2 s hs
structure Es(r:List Tie)(a b:Int)(ws:List (List Step)):Prop where
 way:∀w∈ws,oF (eY r) a w b
 nd:(ws.map mso).flatten.Nodup
def Nxt(n:Nat)(r:List Tie)(a b:Int)(h:List (Int×Int))(w:List Step):Prop:=∀(A:Dat) (c4 c6 c7 c8 c9:Cell),
 iS (e2 gDx (eF u6 [(eFd D9 [(eV 0),(eV 5)]),(eV 2)]) (eV 3)) [.sh (bK n (aF r)),.sh A,.sh (.int a),.sh (.int b),c4,.ow (bC h),c6,c7,c8,c9]
  = some (w.map bU,[.sh (bK n (aF r)),.sh A,.sh (.int a),.sh (.int b),c4,.ow (bC h),c6,c7,c8,c9])
theorem By(n:Nat)(hn:n<=40)(r:List Tie)(hp:Pl n r)(nd:(r.map (·.m)).Nodup)(hl:r.length<=1000)(a b:Int)(a0:0<=a)(a1:a<n)(h':List (Int×Int))(c:Nat)(fl':Flow r (hdF h') a b (c+1)) :
  ∃w,Nxt n r a b h' w/\oF (Led r (hdF h')) a w b/\(mso w).Nodup/\w.length<=1000:=by
 have hR:∀i:Nat,i<n->(aF r i).length<=1000:=fun i _=>S8 (d9 r i) hl;obtain⟨s,es,F,hd⟩:=l7 n hn (vm h' (aF r)) (fun i _ _ u hu=>(vn hp ((tu (h:=h')).mp hu).1).2) a a0 a1;have hb:b∈sk s:=by have:=fl'.reach (S:=fun y=>decide (y∈sk s)) (decide_eq_true F.st) fun y u hy hu=>decide_eq_true (hd y (of_decide_eq_true hy) u (tu.mpr hu));exact of_decide_eq_true this
 obtain⟨w,t1,t2⟩:∃w,(b,w)∈s/\bA (sk s) (sv s) b=some (cO w):=by
  rcases sZ s b with h | h
  ·exact h
  ·exact absurd hb h.1
 obtain⟨⟨w1,w2⟩,_⟩:=F.way _ t1;have Eo:=F.Eo t1;have R4:=F.len;dsimp only at w1 w2 Eo;have w1':Way (Led r (hdF h')) a w b:=w1.mono fun _ _ z=>tu.mp z;refine⟨w,fun A c4 c6 c7 c8 c9=>?_,⟨w1',w2⟩,lY nd (fun p s h=>h.1) w1' w2,by omega⟩;apply XS;refine Xx (T_ (WE (m_ (Yq (m_ (S_ rfl (m_ (WU rfl (U_ ?_)))))))));refine⟨_,_,_,rfl,sX n (by omega) (aF r) hR h',iO _ _,?_⟩;refine m_ (S_ rfl (U_ (WS es ?_ rfl rfl rfl rfl)));refine S_ rfl (Xd t2 ?_ rfl rfl);exact WJ (fG ⟨rfl,rfl⟩)
structure Told(n:Nat)(r:List Tie)(a b:Int)(h:List (Int×Int))(ws:List (List Step))(h':List (Int×Int))(p q:Nat):Prop where
 k:Hok r h'
 wl:ws.length=p
 fl:Flow r (hdF h') a b q
 W:Es r a b ws
 no:∀m∈(ws.map mso).flatten,hdF h' m=none
theorem Told.more{h h':List (Int×Int)}{p q:Nat}(t:Told n r a b h ws h' p (q+1))(nd:(r.map (·.m)).Nodup)(nx:Nxt n r a b h' w)(sw:oF (Led r (hdF h')) a w b)(wm:(mso w).Nodup) :
  Told n r a b h (ws++[w]) (bP h' (mso w)) (p+1) q:=by
 obtain⟨w1',w2⟩:=sw;have fl2:=t.fl.less nd w1' w2;rw[<- ly]at fl2;refine⟨t.k.drops,by simp[t.wl],fl2,⟨fun v hv=>?_,?_⟩,fun m hm=>?_⟩
 ·rcases S4.mp hv with hv | hv
  ·exact t.W.way v hv
  ·rw[SY.mp hv];exact⟨w1'.mono fun _ _ z=>z.1,w2⟩
 ·rw[S0,Vu];refine Tv.mpr ⟨t.W.nd,by rw[Sq,Vn,TF,List.flatten_nil,Tu];exact wm,fun m hm z hz=>?_⟩;intro e;subst e;have:m∈mso w:=by simpa using hz
  obtain⟨st1,hst,rfl⟩:=SW.mp this;have h1:=yh w1' st1 hst;rw[t.no _ hm]at h1;cases h1
 ·rw[S0,Vu]at hm;rw[ly];rcases S4.mp hm with hm | hm
  ·by_cases z:m∈mso w
   ·exact iK z
   ·rw[gI fun u hu e=>z (SW.mpr ⟨u,hu,e⟩)];exact t.no m hm
  ·rw[Sq,Vn,TF,List.flatten_nil,Tu]at hm;exact iK hm
theorem HW{h':List (Int×Int)}{pm:List Int}(sw:∀s∈w,hdF h' s.1=some s.2)(hmw:m∈mso w)(hm:m∉pm):∃d,bA (hk (bP h' pm)) (hv (bP h' pm)) m=some (.int d):=by obtain⟨st1,hst,rfl⟩:=SW.mp hmw;exact⟨st1.2,by rw[mQ,mh pm h' st1.1 hm,sw st1 hst];rfl⟩
noncomputable def msP(w:List Step):Dp:=.l (((mso w).map Dat.int).map .s)
noncomputable def yi(n:Nat)(r:List Tie)(h0 h:List (Int×Int))(a b:Int)(c:Nat)(c7 c9:Cell):Env:=
 [.sh (bK n (aF r)),.sh (bC h0),.sh (.int a),.sh (.int b),.sh (.int c),.ow (bC h),.un,c7,.un,c9]
theorem yj(n:Nat)(hn:n<=40)(r:List Tie)(hp:Pl n r)(nd:(r.map (·.m)).Nodup)(hl:r.length<=1000)(h:List (Int×Int))(k:Hok r h)(a b:Int)(a0:0<=a)(a1:a<n)(c:Nat)(hc:c<=1000)(fl:Flow r (hdF h) a b c) :
  ∃(ws:List (List Step)) (h':List (Int×Int)),dG [bK n (aF r),bC h,.int a,.int b,.int c]=some (.l (ws.map msP))/\Told n r a b h ws h' c 0:=by
 suffices q:∃p,dG [bK n (aF r),bC h,.int a,.int b,.int c]=some p/\∃(ws:List (List Step)) (h':List (Int×Int)),p=.l (ws.map msP)/\Told n r a b h ws h' c 0 by obtain⟨v,h1,ws,h',rfl,h2⟩:=q;exact⟨ws,h',h1,h2⟩
 unfold dG;refine X8 ?_ rfl rfl;refine Xa (WC (WM (m_ (S_ rfl (U_ (Yw (ks:=hk h) (vs:=hv h) ?_ rfl))))) (by decide));refine WQ ?_ rfl;refine Y4 ?_ (by decide) rfl;refine YD (Xw (S_ rfl (dW.mk ⟨?_,by unfold BIG;omega,by unfold BIG;omega⟩)));refine Yl (fun i:Nat=>Dat.int (0+(i:Nat))) _ _ _ (fun p q ρ rr=>∃(h':List (Int×Int)) (ws:List (List Step)) (c7 c9:Cell),ρ=yi n r h h' a b c c7 c9/\rr=ws.map (fun w=>(mso w).map Dat.int)/\Told n r a b h ws h' p.length q.length/\p.length+q.length=c) (SH c) [] _ _
  ⟨h,[],_,_,rfl,rfl,⟨k,rfl,by rw[S9];exact fl,⟨by simp,by simp⟩,by simp⟩,by simp⟩ ?_ ?_
 ·rintro p x q ρ rr ⟨h',ws,c7,c9,rfl,rfl,t,hpq⟩;rw[S1]at t hpq;refine⟨yi n r h h' a b c (.sh (.int (0+(x:Nat)))) c9,rfl,?_⟩;unfold yi Jr;obtain⟨w,nx,sw,wm,Eo⟩:=By n hn r hp nd hl a b a0 a1 h' _ t.fl;refine YS (XO bU w (fun s=>s.1) Dat.int ?_ (nx _ _ _ _ _ _) rfl (by decide) (by unfold SZ;omega) fun s _=>T_ (S_ rfl (V_ (Ww (WJ ⟨rfl,rfl⟩) rfl rfl rfl)))) (by decide) (by rw[Ss,t.wl];unfold SZ;omega);obtain⟨ρ2,p',e2,ep,c9',em',rfl⟩:=zB Dat.int (bN 9) (lV 5 (eV 9)) (fun pm qm ρ=>∃c9,pm++qm=mso w/\ρ=yi n r h (bP h' pm) a b c (.sh (.int (0+(x:Nat)))) c9) (mso w) [] (yi n r h h' a b c (.sh (.int (0+(x:Nat)))) c9) ⟨c9,rfl,rfl⟩ fun pm m qm ρ hI=>by
   obtain⟨c9,em,rfl⟩:=hI;refine⟨yi n r h (bP h' pm) a b c (.sh (.int (0+(x:Nat)))) (.sh (.int m)),rfl,?_⟩;have hm:m∉pm:=by rw[<- em]at wm;exact fun z=>(Tv.mp wm).2.2 m z m Sw rfl
   obtain⟨d,hx⟩:=HW (yh sw.way) (by rw[<- em];simp) hm;refine Yo (k:=m) hx ?_ rfl rfl rfl;refine⟨.sh (.int m),by rw[Uy];exact em,?_⟩;unfold yi;rw[l_,(mR _ _).1,(mR _ _).2];rfl
  rw[Tu]at em';subst em';refine⟨_,_,rfl,e2,bP h' (mso w),ws++[w],_,c9',rfl,by rw[S0];rfl,?_,by rw[SJ];simp;omega⟩;rw[SJ];exact t.more nd nx sw wm
 ·rintro p ρ rr ⟨h',ws,c7,c9,rfl,rfl,t,hpq⟩;refine⟨ws,h',by rw[TN];rfl,?_⟩;rw[UM,Wg]at hpq;rw[hpq]at t;exact t
noncomputable def tupI(S:List Int):Dat:=.tup (S.map Dat.int)
noncomputable def ovr(S:List Int)(t:Tie):Bool:=decide (t.a∈S) != decide (t.b∈S)
noncomputable def kr(r:List Tie)(S:List Int):List Int:=(r.filter (ovr S)).map (·.m)
def tw(n:Nat)(a b:Int)(S:List Int):Prop:=S.Pairwise (· < ·)/\(∀x∈S,0<=x/\x<n)/\a∈S/\b∉S
noncomputable def aH:Option (List Int)->Dat
 |none=>.non
 |some S=>tupI S
theorem Et{l:List Int}(h:l.Nodup):(cU ltI l).Pairwise (· < ·):=by have h1:=ic l;have h2:(cU ltI l).Nodup:=(cK ltI l).nodup_iff.mpr h;refine(List.Pairwise.and h1 h2).imp fun {x y} q=>?_;obtain⟨q1,q2⟩:=q;simp[ltI]at q1;omega
structure Apart(n:Nat)(r:List Tie)(a b:Int)(most:Int)(ws:List (List Step))(o:Option (List Int)):Prop where
 ways:Es r a b ws
 le:(ws.length:Int)<=most
 all:o=none->(ws.length:Int)=most
 side:∀S,o=some S->tw n a b S/\(kr r S).length=ws.length/\(ws.length:Int)<most
noncomputable def Eu(n:Nat)(r:List Tie)(a b most:Int)(c5:Cell)(h:List (Int×Int))(o:Option (List Int))(k:Nat)(c9:Cell):Env:=
 [.sh (.int n),.sh (aL r),.sh (.int a),.sh (.int b),.sh (.int most),c5,.ow (bC h),.sh (aH o),.sh (.int k),c9]
def zX(n:Nat)(r:List Tie)(c:Cell):Prop:=c=.ow (bK n (aF r))\/c=.sh (bK n (aF r))
theorem Js{c5:Cell}(h5:zX n r c5)(A B C D E G H I J:Cell){Q:Val->Env->Prop}(uX:List FE){Q':List Val->Env->Prop}
  (k:∀x,(x=.slot 5/\c5=.ow (bK n (aF r)))\/(x=.val (bK n (aF r))/\c5=.sh (bK n (aF r)))->Was uX [A,B,C,D,E,c5,G,H,I,J] fun xs ρ2=>Q' (x::xs) ρ2):Was (eV 5::uX) [A,B,C,D,E,c5,G,H,I,J] Q':=by
 rcases h5 with rfl | rfl
 ·exact m_ (WU rfl (k _ (.inl ⟨rfl,rfl⟩)))
 ·exact m_ (S_ rfl (k _ (.inr ⟨rfl,rfl⟩)))
noncomputable def HX:FS:=aC (sA 5 (eF D7 [(eV 0),(eV 1)])) (aC (sA 6 eDn) (aC (sA 7 (eC .non)) (aC (sA 8 (eC (.int 0))) (whD (mU (tV (e2 gLt (eV 8) (eV 4))) (tV (e2 sC (eV 7) (eC .non)))) Ea 100))))
theorem ku(a b:FS)(c:FSP):fC (aC a b) c=fC a (fC b c):=by
 funext ρ
 unfold fC aC;cases a ρ with
 |none=>rfl
 |some o=>cases o<;>rfl
def Mm(n:Nat)(r:List Tie)(a b most:Int)(ρ:Env):Prop:=∃(c5:Cell) (h:List (Int×Int)) (o:Option (List Int)) (PN:Nat) (c9:Cell),ρ=Eu n r a b most c5 h o PN c9/\zX n r c5/\Hok r h/\Flow r (hdF h) a b PN/\(PN:Int)<=most/\(∀S,o=some S->tw n a b S/\(kr r S).length=PN/\(PN:Int)<most)/\(o≠none\/¬(PN:Int)<most)
theorem Mn(n:Nat)(hn:n<=40)(r:List Tie)(hp:Pl n r)(nd:(r.map (·.m)).Nodup)(hl:r.length<=1000)(a b:Int)(a0:0<=a)(a1:a<n)(b0:0<=b)(b1:b<n)(most:Int)(m0:0<=most)(m1:most<=90) :
  Ws HX [.sh (.int n),.sh (aL r),.sh (.int a),.sh (.int b),.sh (.int most),.un,.un,.un,.un,.un] (Mm n r a b most) (fun _ _=>False) (fun _=>False) (fun _=>False):=by
 unfold HX;refine Wv (WC (WE (m_ (S_ rfl (m_ (S_ rfl (U_ (WS (vh n (by omega) r hp hl) ?_ rfl rfl rfl rfl))))))) (by decide));refine WQ ?_ (by trivial);refine Wv (WC (X7 (WQ ?_ (by trivial))) (by decide));refine Wv (WC (V_ (Wy ?_ (by trivial))) (by decide));refine Wv (WC (V_ (Wy ?_ (by trivial))) (by decide));have hR:∀i:Nat,i<n->(aF r i).length<=1000:=fun i _=>S8 (d9 r i) hl;refine XC (fun k ρ=>∃ (c5:Cell) (h:List (Int×Int)) (o:Option (List Int)) (PN:Nat) (c9:Cell),ρ=Eu n r a b most c5 h o PN c9∧zX n r c5∧Hok r h∧Flow r (hdF h) a b PN∧(PN:Int)≤most∧(∀ S,o=some S→tw n a b S∧(kr r S).length=PN∧(PN:Int)<most) ∧
   k=(most-PN).toNat+(if o=none then 1 else 0)) ?_ 100 (most.toNat+1) _ (by omega) ⟨_,[],none,0,_,rfl,.inl rfl,Hok.nil r,Flow.zero r a b,m0,by simp,by simp⟩
 rintro k ρ ⟨c5,h,o,PN,c9,rfl,h5,hok,fl,hle,hs,hk⟩;unfold Eu;have PF:o≠none\/¬(PN:Int)<most->Mm n r a b most [.sh (.int n),.sh (aL r),.sh (.int a),.sh (.int b),.sh (.int most),c5,.ow (bC h),.sh (aH o),.sh (.int PN),c9]:=fun hend=>⟨c5,h,o,PN,c9,rfl,h5,hok,fl,hle,hs,hend⟩;refine Yd (WD (T_ (S_ rfl (S_ rfl (Xm (Wx ?_) rfl rfl)))));refine Xc (fun HY=>?_) fun hge=>?_
 ·refine WD (T_ (S_ rfl (V_ (Xu (Wx ?_) rfl rfl))));cases o with
  |some S=>refine WY rfl ?_;exact PF (.inl (by simp))
  |none=>
   refine Xv rfl ?_;unfold Ea;obtain⟨s,es,F,hd⟩:=l7 n hn (vj h (aF r)) (fun i _ _ u hu=>(vn hp ((oH (h:=h)).mp hu).1).2) a a0 a1;have R4:=F.len;have search:∀{N:Env->Prop} {R:RV->Env->Prop} {B C:Env->Prop},(∀c5',zX n r c5'->N [.sh (.int n),.sh (aL r),.sh (.int a),.sh (.int b),.sh (.int most),c5',.ow (bC h),.sh (aH none),.sh (.int PN),.ow (.dct (sk s) (sv s))]) ->
     Ws (sA 9 (eF u6 [(eFd D8 [(eV 5),(eV 6)]),(eV 2)])) [.sh (.int n),.sh (aL r),.sh (.int a),.sh (.int b),.sh (.int most),c5,.ow (bC h),.sh (aH none),.sh (.int PN),c9] N R B C:=fun {N R B C} kN=>by
    refine WC (WE (m_ (Yq (Js (Q:=fun _ _=>True) h5 _ _ _ _ _ _ _ _ _ _ fun x hx=>?_)))) (by decide);refine m_ (WU rfl (U_ ?_));rcases hx with⟨rfl,rfl⟩ | ⟨rfl,rfl⟩
    ·refine⟨_,_,_,rfl,ie n (by omega) (aF r) hR h,iO _ _,?_⟩;refine m_ (S_ rfl (U_ (WS es ?_ rfl rfl rfl rfl)));exact WQ (kN _ (.inr rfl)) (by trivial)
    ·refine⟨_,_,_,rfl,ie n (by omega) (aF r) hR h,iO _ _,?_⟩;refine m_ (S_ rfl (U_ (WS es ?_ rfl rfl rfl rfl)));exact WQ (kN _ (.inr rfl)) (by trivial)
   refine Wv (search fun c5' h5'=>?_);refine WL (WD (T_ (S_ rfl (WU rfl (XD (Wx ?_) rfl rfl)))));rw[l6];refine Xc (fun hb=>?_) fun hb=>?_
   ·obtain⟨w,t1,t2⟩:∃w,(b,w)∈s/\bA (sk s) (sv s) b=some (cO w):=by
     rcases sZ s b with h | h
     ·exact h
     ·exact absurd hb h.1
    obtain⟨⟨w1,w2⟩,_⟩:=F.way _ t1;dsimp only at w1 w2;have w1':Way (dS r (hdF h)) a w b:=w1.mono fun _ _ z=>oH.mp z;have wms:=s_ (fun p s (z:dS r (hdF h) p s)=>z.1) w1';have el:=qx r hl h hok w wms;refine Wv (Xn (X5 (m_ (T_ (WU rfl (S_ rfl (Xd t2 (U_ (XH el ?_ rfl rfl rfl)) rfl rfl))))) rfl));refine WC (T_ (S_ rfl (V_ (WH (Wy ?_ (by trivial)) rfl rfl)))) (by decide);have fl2:=fl.more nd w1' w2;rw[<- rB]at fl2;refine⟨(most-(PN+1:Nat)).toNat+1,by rw[hk];simp;omega,c5',bO h w,none,PN+1,.ow (.dct (sk s) (sv s)),?_,h5',hok.Er wms,fl2,by omega,by simp,by simp⟩;have:((PN:Int)+1)=((PN+1:Nat):Int):=by omega
    rw[this]
   ·refine WC (WM (m_ (WM (m_ (WU rfl (U_ (Y5 (ks:=sk s) (vs:=sv s) ?_ rfl (by simp only[sk,Ss];omega)))))))) (by decide);refine U_ (Ym ?_ rfl);refine Wy ?_ (by trivial);have pm:=cK ltI (sk s);have hS:∀x,x∈cU ltI (sk s)↔x∈sk s:=fun x=>pm.mem_iff;refine⟨(most-PN).toNat,by rw[hk];simp,c5',h,some (cU ltI (sk s)),PN,.ow (.dct (sk s) (sv s)),rfl,h5',hok,fl,hle,fun S z=>?_,by simp⟩;cases z;refine⟨⟨Et F.nd,fun x hx=>F.pl x ((hS x).mp hx),(hS a).mpr F.st,fun z=>hb ((hS b).mp z)⟩,?_,HY⟩;have:=fl.cut (S:=fun y=>decide (y∈cU ltI (sk s))) (decide_eq_true ((hS a).mpr F.st)) (decide_eq_false fun z=>hb ((hS b).mp z)) fun y u hy hu=>decide_eq_true ((hS _).mpr (hd y ((hS y).mp (of_decide_eq_true hy)) u (oH.mpr hu)));unfold kr;rw[Ss];exact this
 ·refine WY rfl ?_;exact PF (.inr hge)
theorem rC(n:Nat)(hn:n<=40)(r:List Tie)(hp:Pl n r)(nd:(r.map (·.m)).Nodup)(hl:r.length<=1000)(a b:Int)(a0:0<=a)(a1:a<n)(b0:0<=b)(b1:b<n)(most:Int)(m0:0<=most)(m1:most<=90) :
  ∃ws o,bg [.int n,aL r,.int a,.int b,.int most]=some (.t [.l (ws.map msP),.s (aH o)])/\Apart n r a b most ws o:=by
 obtain⟨z,hS,q⟩:=Mn n hn r hp nd hl a b a0 a1 b0 b1 most m0 m1;cases z with
 |ret _ _=>exact q.elim
 |bk _=>exact q.elim
 |ct _=>exact q.elim
 |nx ρ5=>
  obtain⟨c5,h,o,PN,c9,rfl,h5,hok,fl,hle,hs,hend⟩:=(show Mm n r a b most ρ5 from q)
  obtain⟨ws,_,eq,tl⟩:=yj n hn r hp nd hl h hok a b a0 a1 PN (by omega) fl;have wl:=tl.wl;have W:=tl.W;have fin2:Apart n r a b most ws o:=⟨W,by rw[wl];exact hle,fun z=>by rw[wl];have:=hend.resolve_left (fun y=>y z);omega,fun S z=>by rw[wl];exact hs S z⟩
  refine⟨ws,o,?_,fin2⟩
  ·suffices t:Wq (fC HX (qR (pT [(lW dG [(eV 5),(eV 6),(eV 2),(eV 3),(eV 8)]),(pO (eV 7))]))) [.sh (.int n),.sh (aL r),.sh (.int a),.sh (.int b),.sh (.int most),.un,.un,.un,.un,.un] (fun p=>p=.t [.l (ws.map msP),.s (aH o)]) by
    unfold HX at t;rw[ku,ku,ku,ku]at t;unfold bg;obtain⟨p,e1,rfl⟩:=X8 (n:=5) (m:=5) (ds:=[.int n,aL r,.int a,.int b,.int most]) t rfl rfl;exact e1
   refine Xa ⟨_,hS,?_⟩;show Wq _ (Eu n r a b most c5 h o PN c9) _;unfold Eu;refine YA (YZ (Wpa.cons (XU (Js (Q:=fun _ _=>True) h5 _ _ _ _ _ _ _ _ _ _ fun x hx=>?_))));refine m_ (WU rfl (m_ (S_ rfl (m_ (S_ rfl (m_ (S_ rfl (U_ ?_))))))));rcases hx with⟨rfl,rfl⟩ | ⟨rfl,rfl⟩
   ·exact⟨_,_,_,eq,Wpa.cons (X0 (S_ rfl ⟨rfl,Wpa.nil ⟨by exact Th rfl,rfl⟩⟩)),rfl⟩
   ·exact⟨_,_,_,eq,Wpa.cons (X0 (S_ rfl ⟨rfl,Wpa.nil ⟨by exact Th rfl,rfl⟩⟩)),rfl⟩
theorem oJ(ws:List (List Step)):(Dp.l (ws.map msP)).dat=.lst (ws.map msD):=by
 unfold Dp.dat;rw[Dp.nQ,TN]
 congr 1
 exact U1 fun w _=>by show Dp.dat (msP w)=msD w;unfold msP Dp.dat;rw[Dp.LP];rfl
theorem lz:∀ws:List (List Step),aQ (ws.map msP)=true
 |[]=>by unfold aQ;rfl
 |w::ws=>by rw[Sq];unfold aQ;rw[lz ws];unfold msP aI;rw[kj];rfl
theorem oK:∀ns:List Int,h_ (ns.map Dat.int)=true
 |[]=>by unfold h_;rfl
 |i::ns=>by rw[Sq];unfold h_;rw[oj,oK ns];rfl
theorem gW(o:Option (List Int)):iF (aH o)=true:=by
 cases o with
 |none=>unfold aH iF;rfl
 |some S=>unfold aH tupI iF;exact oK S
theorem rD(ws:List (List Step))(o:Option (List Int)):aI (.t [.l (ws.map msP),.s (aH o)])=true:=by
 have h1:aI (.l (ws.map msP))=true:=by unfold aI;exact lz ws
 have h2:aI (.s (aH o))=true:=by unfold aI;exact gW o
 unfold aI;unfold aQ aQ aQ;rw[h1,h2];rfl
theorem cS(x n:Int)(h:1<=n):0<=x % n/\x % n<n:=⟨Int.emod_nonneg x (by omega),Int.emod_lt_of_pos x (by omega)⟩
noncomputable def at'(ns:List Int)(i:Int):Int:=ns.getD i.toNat 0
theorem Mp(ns:List Int)(i:Int)(h0:0<=i)(h1:i<ns.length):gIx (.lst (ns.map Dat.int)) (.int i)=some (.val (.int (at' ns i))):=by show (atI (ns.map Dat.int) i).map RV.val=_;rw[Dm.mP Dat.int ns i h0 h1];unfold at';rw[T8,SK (by omega)];rfl
theorem PV(h0:0<=i)(h1:i<ns.length)(k:K (.val (.int (at' ns i))))(ho:o=some (.lst (ns.map Dat.int)))(hp:p=some (.int i)):Wg2 gIx o p K:=⟨_,_,_,ho,hp,Mp ns i h0 h1,k⟩
theorem XA{i j:Int}(k:K (.val (.int (i*j))))(ho:o=some (.int i))(hp:p=some (.int j))(h:i.natAbs.log2<1000000/\j.natAbs.log2<1000000):Wg2 j_ o p K:=⟨_,_,_,ho,hp,by unfold j_;dsimp only;rw[if_pos h],k⟩
noncomputable def aR(x:Int):Dat:=.lst [.int x]
noncomputable abbrev Z60:Int:=1000000000000000000000000000000000000000000000000000000000000
theorem tE(ns:List Int)(k:Int)(h0:0<=k)(h1:k<1000):∃x,l0 [.lst (ns.map Dat.int),.int k]=some (.new (aR x)):=by
 suffices h:Wr (l0 [.lst (ns.map Dat.int),.int k]) fun v=>∃x,v=.new (aR x) by obtain⟨v,h1,c,rfl⟩:=h;exact⟨c,h1⟩
 unfold l0
 (refine Dm.WG ?_ rfl rfl;and_intros)
 refine Wv (WC (V_ (Wy ?_ (by trivial))) (by decide));refine WX (fun ρ=>∃c:Int,ρ=[.sh (.lst (ns.map Dat.int)),.sh (.int k),.sh (.int c),.un,.un,.un]) ?_ ?_
 ·repeat array_get_dec
  refine⟨fun h=>?_,fun h=>?_⟩
  ·have h:=of_decide_eq_true h
   repeat array_get_dec
   refine PV h0 (by simpa using h) ?_ rfl rfl
   repeat array_get_dec
   exact⟨_,rfl⟩
  ·repeat array_get_dec
   exact⟨_,rfl⟩
 rintro ρ ⟨c,rfl⟩;refine Wv (WL (WD (T_ (S_ rfl (T_ (V_ (V_ (Xl (z:=1000000000000000000) ?_ rfl rfl (by decide) (by decide)))))))));refine XT (Wx ?_) rfl rfl;have p60:∀{K:RV->Prop} {o p:Option Dat},K (.val (.int Z60))->o=some (.int 10)->p=some (.int 60)->Wg2 iz o p K:=fun k ho hp=>Xl (z:=Z60) k ho hp (by decide) (by decide +kernel);refine⟨fun h=>?_,fun h=>?_⟩
 ·refine WN (Xg (m_ (T_ (S_ rfl ?_))));refine T_ (T_ (T_ (T_ (T_ (V_ (V_ (p60 ?_ rfl rfl)))))));refine T_ (V_ (V_ (p60 ?_ rfl rfl)));refine XA ?_ rfl rfl (by decide +kernel);refine T_ (V_ (V_ (p60 ?_ rfl rfl)));refine XA ?_ rfl rfl (by decide +kernel);refine T_ (V_ (V_ (p60 ?_ rfl rfl)));refine XA ?_ rfl rfl (by decide +kernel);refine T_ (V_ (V_ (p60 ?_ rfl rfl)));refine XA ?_ rfl rfl (by decide +kernel);refine W4 ?_ rfl rfl (by decide +kernel);refine U_ (WZ ?_ rfl rfl (by exact Th rfl));exact⟨_,rfl⟩
 ·refine WO ?_;refine WX (fun ρ=>∃x:Int,(0<=x/\x<2147483647)/\ρ=[.sh (.lst (ns.map Dat.int)),.sh (.int k),.sh (.int c),.sh (.int x),.un,.un]) ?_ ?_
  ·repeat array_get_dec
   ·exact⟨_,cS _ _ (by decide),rfl⟩
   ·exact .inr (by unfold B64;omega)
  rintro ρ ⟨x,hx,rfl⟩;refine Wv (WC (V_ (Wy ?_ (by trivial))) (by decide));refine Wv (W2 (Xw (V_ (dW.mk ⟨?_,by decide,by decide⟩))));refine W3 (fun i:Nat=>Dat.int (0+(i:Nat))) _ _ (SH 40) _ _ _ _ _ (fun p q ρ=>∃(x f:Int) (c5:Cell),(0<=x/\x<2147483647)/\ρ=[.sh (.lst (ns.map Dat.int)),.sh (.int k),.sh (.int c),.sh (.int x),.sh (.int f),c5]) ⟨_,_,_,hx,rfl⟩ ?_ ?_
  ·rintro p i q ρ e ⟨x,f,c5,hx,rfl⟩;refine Dm.cD rfl (by trivial) ?_;unfold Ef;refine WX (fun ρ=>∃y:Int,(0<=y/\y<2147483647)/\ρ=[.sh (.lst (ns.map Dat.int)),.sh (.int k),.sh (.int c),.sh (.int y),.sh (.int f),.sh (.int (0+(i:Nat)))]) ?_ ?_
   ·repeat array_get_dec
    exact⟨_,by have:=cS (x*48271+7919*(0+((i:Nat):Int))+3) 2147483629 (by decide);omega,rfl⟩
   rintro ρ ⟨y,hy,rfl⟩;refine WX (fun ρ=>∃y:Int,(0<=y/\y<2147483647)/\ρ=[.sh (.lst (ns.map Dat.int)),.sh (.int k),.sh (.int c),.sh (.int y),.sh (.int f),.sh (.int (0+(i:Nat)))]) ?_ ?_
   ·repeat array_get_dec
    ·exact⟨_,by have:=cS (y*y) 2147483587 (by decide);omega,rfl⟩
    ·exact .inl (by unfold B64;omega)
   rintro ρ ⟨z,hz,rfl⟩
   repeat array_get_dec
   exact⟨_,_,_,hz,rfl⟩
  ·rintro ρ ⟨x,f,c5,hx,rfl⟩
   repeat array_get_dec
   exact⟨_,rfl⟩
theorem HZ(x m:Int)(h0:0<m)(h1:m<gY):bJ [aR x,.int m]=some (.val (.int (x % m)),aR (x / m)):=by
 suffices h:WrM (bJ [aR x,.int m]) fun v d=>v=.val (.int (x % m))/\d=aR (x / m) by obtain⟨v,d,h1,rfl,rfl⟩:=h;exact h1
 unfold bJ;refine Xp ?_ rfl rfl;and_intros;unfold aR
 repeat array_get_dec
 ·refine Yg ?_
  repeat array_get_dec
  ·refine⟨_,0,_,rfl,rfl,rfl,?_⟩
   repeat array_get_dec
   exact⟨_,rfl,rfl,rfl⟩
  ·exact⟨h0,h1⟩
 ·exact h0
def Wtk(j:Nat)(m:Int)(ρ1:Env)(Q:Val->Env->Prop):Prop:=∃x ρ3,Q (.val (.int (x % m))) ρ3/\ρ1[j]?=some (.ow (aR x))/\ρ1.set j (.ow (aR (x / m)))=ρ3/\0<m/\m<gY
theorem zY{x m:Int}{ρ1 ρ3:Env}(q:Q (.val (.int (x % m))) ρ3)(h2:ρ1[j]?=some (.ow (aR x)))(hn:ρ1.set j (.ow (aR (x / m)))=ρ3)(h0:0<m)(h1:m<gY):Wtk j m ρ1 Q:=⟨_,_,q,h2,hn,h0,h1⟩
theorem XX{a:FE}{d0:Dat}(h:We a ρ fun v ρ1=>dW v fun m=>Wtk j m ρ1 Q)(h0:ρ[j]?=some (.ow d0)):We (eFm bJ j [a]) ρ Q:=by refine X5 (m_ ?_) h0;obtain⟨v,ρ1,e1,m,rfl,x,ρ3,q,e2,e3,m0,m1⟩:=h;exact⟨_,_,e1,U_ (XH (HZ x m m0 m1) q e2 rfl e3)⟩
theorem WV{a:FE}{x m:Int}(ha:a ρ=some (.val (.int m),ρ))(h0:0<m)(h1:m<gY)(hj:ρ[j]?=some (.ow (aR x)))(k:∀t x':Int,0<=t->t<m->∀ρ3,ρ.set j (.ow (aR x'))=ρ3->Q (.val (.int t)) ρ3):We (eFm bJ j [a]) ρ Q:=
 XX ⟨_,_,ha,m,rfl,zY (k _ _ (cS x m (by omega)).1 (cS x m (by omega)).2 _ rfl) hj rfl h0 h1⟩ hj
def Good(n:Int):Int->List Tie->Prop
 |_,[]=>True
 |lo,t::r=>lo<=t.m/\0<=t.a/\t.a<=t.b/\t.b<n/\Good n (t.m+1) r
theorem Good.lo{n:Int}:∀{r:List Tie} {lo:Int},Good n lo r->∀t∈r,lo<=t.m
 |[],_,_,t,ht=>by cases ht
 |u::r,lo,h,t,ht=>by
  obtain⟨h1,h2,h3,h4,h5⟩:=h;rcases SD.mp ht with rfl | ht
  ·exact h1
  ·have:=Good.lo h5 t ht;omega
theorem XE{s:FS}{Q B C:Env->Prop}{R:RV->Env->Prop}(h:∀K:Env->Prop,(∀ρ,Q ρ->K ρ)->Ws s ρ K R B C):Ws s ρ Q R B C:=h Q fun _ h=>h
theorem Good.snoc{n:Int}:∀{r:List Tie} {lo hi:Int} {t:Tie},Good n lo r->(∀u∈r,u.m<hi)->lo<=hi->hi=t.m->0<=t.a->t.a<=t.b->t.b<n->Good n lo (r++[t])
 |[],_,_,_,_,_,h,e,h1,h2,h3=>⟨by omega,h1,h2,h3,trivial⟩
 |u::r,lo,hi,t,h,hu,hl,e,h1,h2,h3=>by obtain⟨k1,k2,k3,k4,k5⟩:=h;exact⟨k1,k2,k3,k4,Good.snoc k5 (fun v hv=>hu v (Sy _ hv)) (by have:=hu u Sw;omega) e h1 h2 h3⟩
theorem H_(x:Int):∃(n x':Int),vc [aR x]=some (.val (.int n),aR x')/\1<=n/\n<=10:=by
 suffices h:WrM (vc [aR x]) fun v d=>∃n x':Int,v=.val (.int n)/\d=aR x'/\1<=n/\n<=10 by obtain⟨v,d,h1,n,x',rfl,rfl,h2⟩:=h;exact⟨n,x',h1,h2⟩
 unfold vc;refine Xp ?_ rfl rfl;and_intros;refine WN (T_ ?_)
 ((with_reducible refine Dm.Xg ?_);(with_reducible refine Dm.m_ ?_);(with_reducible refine Dm.V_ ?_);(with_reducible refine Dm.m_ ?_);(with_reducible refine Dm.V_ ?_);(with_reducible refine Dm.m_ ?_);(with_reducible refine Dm.V_ ?_);(with_reducible refine Dm.m_ ?_);(with_reducible refine Dm.V_ ?_);(with_reducible refine Dm.m_ ?_);(with_reducible refine Dm.V_ ?_);(with_reducible refine Dm.m_ ?_);(with_reducible refine Dm.V_ ?_);(with_reducible refine Dm.m_ ?_);(with_reducible refine Dm.V_ ?_);(with_reducible refine Dm.m_ ?_);(with_reducible refine Dm.V_ ?_);(with_reducible refine Dm.U_ ?_);(refine Dm.WZ ?_ rfl (by trivial) (by exact Th rfl)))
 refine WV (m:=8) rfl (by decide) (by decide) rfl fun t x' h0 h1 ρ3 e=>?_;subst e;have:t=0\/t=1\/t=2\/t=3\/t=4\/t=5\/t=6\/t=7:=by omega
 rcases this with rfl | rfl | rfl | rfl | rfl | rfl | rfl | rfl <;>
 ·refine Ww ?_ rfl rfl rfl;exact⟨_,rfl,_,x',rfl,rfl,by decide,by decide⟩
theorem ix4(a b c d:Int)(x:Int)(h0:0<=x)(h:x<4):gIx (.lst [.int a,.int b,.int c,.int d]) (.int x)=some (.val (.int (if x=0 then a else if x=1 then b else if x=2 then c else d))):=by
 have:x=0\/x=1\/x=2\/x=3:=by omega
 rcases this with rfl | rfl | rfl | rfl<;>rfl
noncomputable abbrev Z28:Int:=10000000000000000000000000000
noncomputable abbrev Z30:Int:=1000000000000000000000000000000
noncomputable def RE(pool:Int)(n most many kind step times way Mq:Int)(r:List Tie)(c10 c11 c12:Cell):Env:=
 [.ow (aR pool),.sh (.int n),.sh (.int most),.sh (.int many),.sh (.int kind),.sh (.int step),.sh (.int times),.sh (.int way),.sh (.int Mq),.ow (aL r),c10,c11,c12]
theorem zZ(a b:Int):(if b<a then b else a)<=(if b>a then b else a):=by split<;>split<;>omega
theorem BA(x n most:Int)(n1:1<=n)(n10:n<=10)(m0:0<=most)(m60:most<=60) :
  ∃(r:List Tie) (x':Int),rA [aR x,.int n,.int most]=some (.new (aL r),aR x')/\Good n 0 r/\(r.length:Int)<=most/\∀t∈r,t.m<=Z30:=by
 suffices hh:WrM (rA [aR x,.int n,.int most]) fun v d=>∃(r:List Tie) (x':Int),v=.new (aL r)/\d=aR x'/\Good n 0 r/\(r.length:Int)<=most/\∀t∈r,t.m<=Z30 by obtain⟨v,d,h1,h,x',rfl,rfl,h2⟩:=hh;exact⟨h,x',h1,h2⟩
 suffices hK:∀K:RV->Dat->Prop,(∀v d,(∃(r:List Tie) (x':Int),v=.new (aL r)/\d=aR x'/\Good n 0 r/\(r.length:Int)<=most/\∀t∈r,t.m<=Z30)->K v d)->WrM (rA [aR x,.int n,.int most]) K from hK _ fun _ _ h=>h
 intro K hK;unfold rA;refine Xp ?_ rfl rfl;and_intros;refine Wv (WC ?_ (by decide));refine WV (m:=most+1) rfl (by omega) (by unfold gY;omega) rfl fun many x1 h1 h2 ρ3 e=>?_;subst e;refine Wy ?_ (by trivial);refine Wv (WC ?_ (by decide));refine WV (m:=4) rfl (by decide) (by decide) rfl fun kind x2 k1 k2 ρ3 e=>?_;subst e;refine Wy ?_ (by trivial);refine WX (fun ρ=>∃step:Int,(1<=step/\step<=1000000/\(kind=3->step<=1000))/\ρ=[.ow (aR x2),.sh (.int n),.sh (.int most),.sh (.int many),.sh (.int kind),.sh (.int step),.un,.un,.un,.un,.un,.un,.un]) ?_ ?_
 ·refine XE fun K0 hK0=>?_;refine WC (T_ (Xg (m_ (V_ (m_ (V_ (m_ (T_ (V_ (V_ (Xl (z:=1000000) ?_ rfl rfl (by decide) (by decide)))))))))))) (by decide);refine m_ (V_ (U_ (WZ ?_ rfl rfl (by exact Th rfl))));refine S_ rfl (Ww ?_ rfl rfl (ix4 1 3 1000000 1000 kind k1 k2));refine Wy ?_ (by trivial);refine hK0 _ ⟨_,?_,rfl⟩;have:kind=0\/kind=1\/kind=2\/kind=3:=by omega
  rcases this with q | q | q | q<;>rw[q]<;>decide
 rintro ρ ⟨step,hs,rfl⟩;refine WX (fun ρ=>∃times:Int,(0<=times/\step*times<=Z28)/\ρ=[.ow (aR x2),.sh (.int n),.sh (.int most),.sh (.int many),.sh (.int kind),.sh (.int step),.sh (.int times),.un,.un,.un,.un,.un,.un]) ?_ ?_
 ·refine XE fun K1 hK1=>?_;refine WC (T_ (Xg (m_ (V_ (m_ (T_ (V_ (V_ (Xl (z:=10000000000000000000000000) ?_ rfl rfl (by decide) (by decide)))))))))) (by decide);refine U_ (WZ ?_ rfl rfl (by exact Th rfl));refine WM (m_ (T_ (S_ rfl (V_ (W7 ?_ rfl rfl)))));refine U_ (Yc ?_ rfl);by_cases q:kind=3
  ·rw[decide_eq_true q];refine Ww (v:=.int 10000000000000000000000000) ?_ rfl rfl rfl;exact Wy (hK1 _ ⟨10000000000000000000000000,⟨by decide,by have:=hs.2.2 q;unfold Z28;omega⟩,rfl⟩) (by trivial)
  ·rw[decide_eq_false q];refine Ww (v:=.int 1) ?_ rfl rfl rfl;exact Wy (hK1 _ ⟨1,⟨by decide,by unfold Z28;omega⟩,rfl⟩) (by trivial)
 rintro ρ ⟨times,⟨ht,hst⟩,rfl⟩;have tb:∀t:Int,0<=t->t<step->t*times<=Z28:=fun t _ t2=>Int.le_trans (Int.mul_le_mul_of_nonneg_right (VR t2) ht) hst;refine Wv (WC ?_ (by decide));refine WV (m:=4) rfl (by decide) (by decide) rfl fun way x3 w1 w2 ρ3 e=>?_;subst e;refine Wy ?_ (by trivial);refine WX (fun ρ=>∃x4 mo:Int,(0<=mo/\mo<=Z28)/\ρ=[.ow (aR x4),.sh (.int n),.sh (.int most),.sh (.int many),.sh (.int kind),.sh (.int step),.sh (.int times),.sh (.int way),.sh (.int mo),.un,.un,.un,.un]) ?_ ?_
 ·refine XE fun K2 hK2=>?_;refine WC (T_ ?_) (by decide);refine WV (m:=step) rfl (by omega) (by unfold gY;omega) rfl fun t x4 t1 t2 ρ3 e=>?_;subst e;refine S_ rfl (Xs ?_ rfl rfl (.inl (by unfold B64;omega)));exact Wy (hK2 _ ⟨_,_,⟨Int.mul_nonneg t1 ht,tb t t1 t2⟩,rfl⟩) (by trivial)
 rintro ρ ⟨x4,mo,hmo,rfl⟩;refine Wv (WC (Xg (U_ (WZ ?_ rfl rfl (by decide)))) (by decide));refine WQ ?_ (by trivial);refine Wv (W2 (Xw (S_ rfl (dW.mk ⟨?_,by unfold BIG;omega⟩))));refine W3 (fun i:Nat=>Dat.int (0+(i:Nat))) _ _ (SH many.toNat) _ _ _ _ _ (fun p q ρ=>∃(x mo:Int) (r:List Tie) (c10 c11 c12:Cell),ρ=RE x n most many kind step times way mo r c10 c11 c12/\Good n 0 r/\r.length=p.length/\(∀u∈r,u.m<mo)/\0<=mo/\mo<=((p.length:Int)+1)*(Z28+1))
  ⟨_,_,[],_,_,_,rfl,trivial,rfl,(fun u hu=>by cases hu),hmo.1,by have:=hmo.2;simp;omega⟩ ?_ ?_
 ·rintro p i q ρ e ⟨x,mo,r,c10,c11,c12,rfl,hg,hl,hu,hm,hM⟩;have lp:p.length<100:=by
   have:(SH many.toNat).length=p.length+(q.length+1):=by rw[e];simp
   rw[S9]at this;omega
  unfold RE;refine Dm.cD rfl (by trivial) ?_;unfold Eg;refine XE fun KL hKL=>?_;refine Wv (WC ?_ (by decide));refine WV (m:=n) rfl (by omega) (by unfold gY;omega) rfl fun one y1 o1 o2 ρ3 e=>?_;subst e;refine Wy ?_ (by trivial);refine Wv (WC ?_ (by decide));refine WV (m:=n) rfl (by omega) (by unfold gY;omega) rfl fun oth y2 u1 u2 ρ3 e=>?_;subst e;refine Wy ?_ (by trivial);refine WX (fun ρ=>∃o:Int,(0<=o/\o<n)/\ρ=RE y2 n most many kind step times way mo r (.sh (.int (0+(i:Nat)))) (.sh (.int one)) (.sh (.int o))) ?_ ?_
  ·refine XE fun K3 hK3=>?_;refine WL (WD (T_ (S_ rfl (V_ (W7 (Wx ?_) rfl rfl)))));refine Xc (fun _=>?_) fun _=>?_
   ·refine WC (T_ (T_ (S_ rfl (V_ (WH (S_ rfl (W4 ?_ rfl rfl (by omega))) rfl rfl))))) (by decide);exact Wy (hK3 _ ⟨_,cS _ n n1,rfl⟩) (by trivial)
   ·exact WO (hK3 _ ⟨oth,⟨u1,u2⟩,rfl⟩)
  rintro ρ ⟨o,⟨q1,q2⟩,rfl⟩;refine WX (fun ρ=>∃o:Int,(0<=o/\o<n)/\ρ=RE y2 n most many kind step times way mo r (.sh (.int (0+(i:Nat)))) (.sh (.int one)) (.sh (.int o))) ?_ ?_
  ·refine XE fun K4 hK4=>?_;unfold RE;refine WL (WD (T_ (S_ rfl (V_ (W7 (Wx ?_) rfl rfl)))));refine Xc (fun _=>?_) fun _=>?_
   ·refine WC (T_ (T_ (T_ (T_ (S_ rfl (T_ (S_ rfl (V_ (W4 ?_ rfl rfl (by decide)))))))))) (by decide);refine WH ?_ rfl rfl;refine V_ (WH ?_ rfl rfl);refine WM (m_ (S_ rfl (m_ (V_ (U_ (Xi ?_ rfl))))));refine W4 ?_ rfl rfl (by split<;>omega);refine S_ rfl (W4 ?_ rfl rfl (by omega));exact Wy (hK4 _ ⟨_,cS _ n n1,rfl⟩) (by trivial)
   ·exact WO (hK4 _ ⟨o,⟨q1,q2⟩,rfl⟩)
  rintro ρ ⟨o,⟨q1,q2⟩,rfl⟩;unfold RE;refine Wv (Xq (Xy (m_ (S_ rfl (m_ (WM (m_ (S_ rfl (m_ (S_ rfl (U_ (Xi ?_ rfl))))))))))) rfl);refine m_ (WM (m_ (S_ rfl (m_ (S_ rfl (U_ (Xj ?_ rfl)))))));refine U_ (WZ ?_ rfl rfl (by exact Th rfl));refine WJ (oh ?_ rfl (by trivial) (by rw[Ss];unfold SZ;omega));refine WC (T_ (T_ (S_ rfl (V_ (WH ?_ rfl rfl))))) (by decide);refine T_ ?_;refine WV (m:=step) rfl (by omega) (by unfold gY;omega) rfl fun t x4 t1 t2 ρ3 e=>?_;subst e;refine S_ rfl (Xs ?_ rfl rfl (.inl (by unfold B64;omega)));refine WH ?_ rfl rfl;refine Wy ?_ (by trivial);have tn:=Int.mul_nonneg t1 ht;refine hKL _ ⟨x4,mo+1+t*times,r++[⟨mo,(if o<one then o else one),(if o>one then o else one)⟩],.sh (.int (0+(i:Nat))),.sh (.int one),.sh (.int o),?_,?_,by simp[hl],?_,by omega,?_⟩
  ·unfold aL;rw[S0];rfl
  ·refine Good.snoc (hi:=mo) hg hu hm rfl ?_ (zZ one o) ?_
   ·show 0<=(if o<one then o else one);split<;>omega
   ·show (if o>one then o else one)<n;split<;>omega
  ·intro u hu';rcases S4.mp hu' with h | h
   ·have:=hu u h;omega
   ·rw[SY.mp h];show mo<_;omega
  ·have:=tb t t1 t2;rw[SJ,Uv];have e:(((p.length+1:Nat):Int)+1)*(Z28+1)=((p.length:Int)+1)*(Z28+1)+(Z28+1):=by
    rw[Int.natCast_add,Wj (((p.length:Int))+((1:Nat):Int)) 1,Int.one_mul];rfl
   rw[e];omega
 ·rintro ρ ⟨x,mo,r,c10,c11,c12,rfl,hg,hl,hu,hm,hM⟩;unfold RE;refine WN (WU rfl (Xk ?_ rfl));rw[S9]at hM hl;refine⟨_,rfl,hK _ _ ⟨r,x,rfl,rfl,hg,?_,fun t ht=>?_⟩⟩
  ·rw[hl];omega
  ·have h1:=hu t ht;have h2:((many.toNat:Int)+1)*(Z28+1)<=61*(Z28+1):=Int.mul_le_mul_of_nonneg_right (by omega) (by decide);have h3:(61:Int)*(Z28+1)<=Z30:=by decide
   omega
noncomputable def e_(r:List Tie)(S:Int->Bool):Nat:=(r.filter (over S)).length
theorem z0(S:Int->Bool):∀{w:List Step} {x y:Int},Way (eY r) x w y->S x=true->S y=false->∃s∈w,s.1∈(r.filter (over S)).map (·.m)
 |[],x,y,h,h1,h2=>by cases h;rw[h1]at h2;cases h2
 |s::w,x,y,h,h1,h2=>by
  cases hs:S s.2 with
  |true=>obtain⟨u,hu,k⟩:=z0 S h.2 hs h2;exact⟨u,Sy _ hu,k⟩
  |false=>
   obtain⟨t,ht,hm,_,he⟩:=h.1;refine⟨s,Sw,SW.mpr ⟨t,Ub.mpr ⟨ht,?_⟩,hm⟩⟩;unfold over;rcases he with⟨e1,e2⟩ | ⟨e1,e2⟩
   ·rw[e1,e2,h1,hs];rfl
   ·rw[e1,e2,h1,hs];rfl
theorem picks(S:Int->Bool)(ha:S a=true)(hb:S b=false):∀(ws:List (List Step)),(∀w∈ws,Way (eY r) a w b)->(ws.map mso).flatten.Nodup ->
  ∃ps:List Int,ps.length=ws.length/\ps.Nodup/\∀m∈ps,m∈(ws.map mso).flatten/\m∈(r.filter (over S)).map (·.m)
 |[],_,_=>⟨[],rfl,by simp,by simp⟩
 |w::ws,h,nd=>by
  rw[Sq,TF]at nd;obtain⟨n1,n2,n3⟩:=Tv.mp nd;obtain⟨ps,p1,p2,p3⟩:=picks S ha hb ws (fun v hv=>h v (Sy _ hv)) n2;obtain⟨s,hs,k⟩:=z0 S (h w Sw) ha hb;have hsm:s.1∈mso w:=SW.mpr ⟨s,hs,rfl⟩;refine⟨s.1::ps,by simp[p1],SV.mpr ⟨fun z=>n3 _ hsm _ (p3 _ z).1 rfl,p2⟩,fun m hm=>?_⟩;rw[Sq,TF];rcases SD.mp hm with rfl | hm
  ·exact⟨Tf _ hsm,k⟩
  ·exact⟨S5 _ (p3 m hm).1,(p3 m hm).2⟩
theorem Mr(W:Es r a b ws){S:Int->Bool}(ha:S a=true)(hb:S b=false):ws.length<=e_ r S:=by obtain⟨ps,p1,p2,p3⟩:=picks S ha hb ws (fun w hw=>(W.way w hw).way) W.nd;have:=eZ ps _ p2 fun m hm=>(p3 m hm).2;rw[Ss]at this;unfold e_;omega
theorem rE(r:List Tie)(S:Int->Bool):e_ r (fun x=>!S x)=e_ r S:=by
 unfold e_
 congr 1
 apply List.filter_congr;intro t _;unfold over;dsimp only;cases S t.a<;>cases S t.b<;>rfl
structure Fit(n:Nat)(r:List Tie):Prop where
 n40:n<=40
 pl:Pl n r
 nd:(r.map (·.m)).Nodup
 len:r.length<=1000
theorem Fit.sub{r K:List Tie}(h:Fit n r)(s:K.Sublist r):Fit n K:=⟨h.n40,fun t ht=>h.pl t (s.subset ht),h.nd.sublist (s.map _),S8 s.length_le h.len⟩
theorem qy(h:Fit n r)(a0:0<=a)(a1:a<n)(b0:0<=b)(b1:b<n){k:Nat}(k6:k<=6) :
  ∃c:Bool,Bu [.int n,aL r,.int a,.int b,.int k]=some (.val (.bl c))/\(c=true->∀S:Int->Bool,S a=true->S b=false->k<=e_ r S)/\(c=false->∃S:Int->Bool,S a=true/\S b=false/\e_ r S<k):=by
 obtain⟨ws,o,e,A⟩:=rC n h.n40 r h.pl h.nd h.len a b a0 a1 b0 b1 k (by omega) (by omega);refine⟨isN (aH o),?_,fun z S s1 s2=>?_,fun z=>?_⟩
 ·apply WI;unfold Bu
  (refine Dm.WG ?_ rfl rfl;and_intros)
  refine WN (T_ (T_ (XM ?_)));refine m_ (S_ rfl (m_ (S_ rfl (m_ (S_ rfl (m_ (S_ rfl (m_ (S_ rfl (U_ ⟨_,_,e,rfl,rD ws o,?_⟩))))))))));refine V_ (Ww ?_ rfl rfl rfl);exact V_ (Xu rfl rfl rfl)
 ·cases o with
  |none=>have:=A.all rfl;have:=Mr A.ways s1 s2;omega
  |some S=>cases z
 ·cases o with
  |none=>cases z
  |some S=>
   obtain⟨⟨_,_,h1,h2⟩,h3,h4⟩:=A.side S rfl;refine⟨fun x=>decide (x∈S),decide_eq_true h1,decide_eq_false h2,?_⟩;have:e_ r (fun x=>decide (x∈S))=(kr r S).length:=by unfold kr;rw[Ss];rfl
   omega
theorem vo(i:Int):HN [.int i]=some (.val (.bl true)):=by
 apply WI;unfold HN
 (refine Dm.WG ?_ rfl rfl;and_intros)
 refine WN (W9 (W8 (S_ rfl (W0 ?_ rfl rfl))));refine Wx (W5 (X_ (W8 (S_ rfl (W0 ?_ rfl rfl)))));exact Wx rfl
theorem dI(i lo hi:Int)(h0:lo<=i)(h1:i<=hi):u7 [.int i,.int lo,.int hi]=some (.val (.bl true)):=by unfold u7;simp[fn,sR,eO,eF,eAs,eV,pks,pk,vo,RV.bD,RV.dat,dg,f_,gLe,h0,h1]
theorem oM(k:Int)(h0:1<=k)(h1:k<=6):zJ [.int k]=some (.val .non):=by
 have e:oz [.int k]=some (.val (.bl true)):=by
  apply WI;unfold oz
  (refine Dm.WG ?_ rfl rfl;and_intros)
  refine WN (WE (m_ (S_ rfl (m_ (V_ (m_ (V_ (U_ (Wz (dI k 1 6 h0 h1) ?_ rfl rfl)))))))));rfl
 apply WI;unfold zJ
 (refine Dm.WG ?_ rfl rfl;and_intros)
 refine WL (WW (WD (WE (m_ (S_ rfl (U_ (Wz e ?_ rfl rfl)))))));exact Wx (WK (WO rfl))
noncomputable def mgf(f:Int->Int)(a b:Int):Int->Int:=fun x=>if f x=f b then f a else f x
inductive Con(ts:List Tie):Int->Int->Prop
 |refl (x:Int):Con ts x x
 |tie (t:Tie):t∈ts->Con ts t.a t.b
 |symm {x y:Int}:Con ts x y->Con ts y x
 |trans {x y z:Int}:Con ts x y->Con ts y z->Con ts x z
theorem Con.mono{ts us:List Tie}(h:∀t∈ts,t∈us){x y:Int}(c:Con ts x y):Con us x y:=by
 induction c with
 |refl x=>exact .refl x
 |tie t m=>exact .tie t (h t m)
 |symm _ ih=>exact .symm ih
 |trans _ _ i1 i2=>exact .trans i1 i2
def Tells(f:Int->Int)(ts:List Tie):Prop:=∀x y,f x=f y↔Con ts x y
theorem Con.nil{x y:Int}(c:Con [] x y):x=y:=by
 induction c with
 |refl x=>rfl
 |tie t m=>cases m
 |symm _ ih=>exact ih.symm
 |trans _ _ i1 i2=>exact i1.trans i2
theorem tells_nil:Tells (fun x=>x) []:=fun x y=>⟨fun h=>by cases h;exact .refl _,fun c=>c.nil⟩
theorem tells_mgf{ts:List Tie}(h:Tells f ts)(t:Tie)(a b:Int)(PM:(a=t.a/\b=t.b)\/(a=t.b/\b=t.a)):Tells (mgf f a b) (t::ts):=by
 have up:∀{x y},f x=f y->Con (t::ts) x y:=fun e=>Con.mono (fun u m=>Sy _ m) ((h _ _).mp e);have ab:Con (t::ts) a b:=by
  rcases PM with⟨rfl,rfl⟩ | ⟨rfl,rfl⟩
  ·exact .tie t Sw
  ·exact .symm (.tie t Sw)
 intro x y;unfold mgf;constructor
 ·intro e;by_cases hx:f x=f b
  ·rw[if_pos hx]at e;by_cases hy:f y=f b
   ·exact up (hx.trans hy.symm)
   ·rw[if_neg hy]at e;exact .trans (up hx) (.trans (.symm ab) (up e))
  ·rw[if_neg hx]at e;by_cases hy:f y=f b
   ·rw[if_pos hy]at e;exact .trans (up e) (.trans ab (.symm (up hy)))
   ·rw[if_neg hy]at e;exact up e
 ·intro c;have key:∀{x y:Int},Con (t::ts) x y->(if f x=f b then f a else f x)=(if f y=f b then f a else f y):=fun c=>by
   induction c with
   |refl x=>rfl
   |tie u m=>
    rcases SD.mp m with rfl | m
    ·rcases PM with⟨rfl,rfl⟩ | ⟨rfl,rfl⟩
     ·rw[if_pos (rfl:f u.b=f u.b)];split
      ·rfl
      ·rfl
     ·rw[if_pos (rfl:f u.a=f u.a)];split
      ·rfl
      ·rfl
    ·have e:=(h u.a u.b).mpr (.tie u m);rw[e]
   |symm _ ih=>exact ih.symm
   |trans _ _ i1 i2=>exact i1.trans i2
  exact key c
noncomputable def lay(r:List Tie)(ms:List Int)(j:Int):List Tie:=((r.zip ms).filter fun p=>decide (p.2=j)).map (·.1)
theorem kB(t:Tie)(m:Int)(r:List Tie)(ms:List Int)(j:Int):lay (t::r) (m::ms) j=if m=j then t::lay r ms j else lay r ms j:=by unfold lay;rw[VH,Uj];by_cases h:m=j<;>simp[h]
def vp(k:Int)(r:List Tie)(ms:List Int)(t:Tie)(m:Int):Prop:=
 (m=0/\∀j,1<=j->j<=k->Con (lay r ms j) t.a t.b)\/(1<=m/\m<=k/\¬Con (lay r ms m) t.a t.b/\∀j,1<=j->j<m->Con (lay r ms j) t.a t.b)
def b_(k:Int):List Tie->List Int->Prop
 |[],[]=>True
 |t::r,m::ms=>b_ k r ms/\vp k r ms t m
 |_,_=>False
theorem vp.uniq{m m':Int}(h:vp k r ms t m)(h':vp k r ms t m'):m=m':=by
 rcases h with⟨rfl,h⟩ | ⟨h1,h2,h3,h4⟩
 ·rcases h' with⟨rfl,_⟩ | ⟨g1,g2,g3,_⟩
  ·rfl
  ·exact absurd (h m' g1 g2) g3
 ·rcases h' with⟨rfl,h'⟩ | ⟨g1,g2,g3,g4⟩
  ·exact absurd (h' m h1 h2) h3
  ·rcases Int.lt_trichotomy m m' with q | q | q
   ·exact absurd (g4 m h1 q) h3
   ·exact q
   ·exact absurd (h4 m' g1 q) g3
theorem b_.len:∀{r:List Tie} {ms:List Int},b_ k r ms->ms.length=r.length
 |[],[],_=>rfl
 |_::r,_::ms,h=>by simp[b_.len h.1]
 |[],_::_,h=>h.elim
 |_::_,[],h=>h.elim
theorem b_.uniq:∀{r:List Tie} {ms ms':List Int},b_ k r ms->b_ k r ms'->ms=ms'
 |[],[],[],_,_=>rfl
 |_::r,m::ms,m'::ms',h,h'=>by have e:=b_.uniq h.1 h'.1;subst e;rw[h.2.uniq h'.2]
 |[],_::_,_,h,_=>h.elim
 |[],[],_::_,_,h=>h.elim
 |_::_,[],_,h,_=>h.elim
 |_::_,_::_,[],_,h=>h.elim
noncomputable def lab(n:Nat)(f:Int->Int):Dat:=.lst ((SH n).map fun(i:Nat)=>Dat.int (f i))
theorem tF(n:Nat)(f:Int->Int)(x:Int)(h0:0<=x)(h1:x<n):gIx (lab n f) (.int x)=some (.val (.int (f x))):=by
 unfold lab gIx atI ixN;have hx:x.toNat<n:=by omega
 have hc:((x.toNat:Nat):Int)=x:=by omega
 simp only[Ss,S9,h0,h1,if_true];simp[Ua hx,hc]
theorem Ms(n:Nat):Dat.lst (ups 0 n)=lab n fun x=>x:=by unfold ups lab;simp
theorem Ia(n:Nat)(f:Int->Int):lab n f=.lst (((SH n).map fun(i:Nat)=>f i).map Dat.int):=by unfold lab;rw[TN];rfl
theorem BB(n:Nat)(hn:n<=10)(f:Int->Int)(a b:Int)(a0:0<=a)(a1:a<n)(b0:0<=b)(b1:b<n):zL [lab n f,.int a,.int b]=some (.new (lab n (mgf f a b))):=by
 apply WI;unfold zL
 (refine Dm.WG ?_ rfl rfl;and_intros)
 refine WN (Xf (fun i:Nat=>Dat.int (f i)) (SH n) (fun i:Nat=>mgf f a b i) Dat.int (d:=lab n f) ?_ rfl rfl rfl (by decide) (by rw[S9];unfold SZ;omega) fun i _=>?_)
 ·rw[<- Ia];rfl
 ·refine Ys (WD (T_ (S_ rfl (T_ (S_ rfl (S_ rfl (Ww ?_ rfl rfl (tF n f b b0 b1))))))));refine W7 (Wx ⟨fun g=>?_,fun g=>?_⟩) rfl rfl
  ·refine T_ (S_ rfl (S_ rfl (Ww (WJ ⟨?_,rfl⟩) rfl rfl (tF n f a a0 a1))));unfold mgf;rw[if_pos (of_decide_eq_true g)]
  ·refine S_ rfl (WJ ⟨?_,rfl⟩);unfold mgf;rw[if_neg (of_decide_eq_false g)]
theorem vq(DV:α->Dat)(d:α):∀(k:Nat) (l:List α),j7 k (l.map DV)=(SH l.length).map fun i=>.tup [.int ((k+i:Nat):Int),DV (l.getD i d)]
 |k,[]=>rfl
 |k,x::l=>by
  rw[Sq,j7,vq DV d (k+1) l,S1,List.range_succ_eq_map,Sq,TN]
  congr 1
  apply U1;intro i _;show _=Dat.tup [.int ((k+(i+1):Nat):Int),DV ((x::l).getD (i+1) d)];rw[show k+1+i=k+(i+1) by omega];rfl
theorem vt{n k:Nat}{p q:List Nat}(e:SH n=p++k::q):k=p.length/\k<n:=by
 have h1:(SH n)[p.length]?=some k:=by rw[e,Tc (SA _),Vs];rfl
 have h2:p.length<n:=by
  have:(SH n).length=p.length+(q.length+1):=by rw[e];simp
  rw[S9]at this;omega
 rw[Ua h2]at h1;injection h1 with h1
 omega
def Ew(gs:List (Int->Int))(a b:Int)(i:Nat)(num:Int):Prop:=
 (num=0/\∀(j:Nat) f,j<i->gs[j]?=some f->f a=f b)\/∃(j:Nat) (f:Int->Int),j<i/\gs[j]?=some f/\f a≠f b/\(∀(j':Nat) f',j'<j->gs[j']?=some f'->f' a=f' b)/\num=(j:Int)+1
theorem Ex(n:Nat)(gs:List (Int->Int))(a b:Int)(a0:0<=a)(a1:a<n)(b0:0<=b)(b1:b<n):∃num:Int,u9 [.lst (gs.map (lab n)),.int a,.int b]=some (.val (.int num))/\Ew gs a b gs.length num:=by
 suffices hh:Wr (u9 [.lst (gs.map (lab n)),.int a,.int b]) fun v=>∃num:Int,v=.val (.int num)/\Ew gs a b gs.length num by obtain⟨v,h1,num,rfl,h2⟩:=hh;exact⟨num,h1,h2⟩
 unfold u9
 (refine Dm.WG ?_ rfl rfl;and_intros)
 refine Wv (W2 (YT (S_ rfl (WJ ⟨_,rfl,?_⟩))));rw[vq (lab n) fun x=>x];refine W3 (fun i:Nat=>Dat.tup [.int ((0+i:Nat):Int),lab n (gs.getD i fun x=>x)]) _ _ (SH gs.length) _ _ _ _ _ (fun p q ρ=>∃c3 c4:Cell,ρ=[.sh (.lst (gs.map (lab n))),.sh (.int a),.sh (.int b),c3,c4]/\∀(j:Nat) f,j<p.length->gs[j]?=some f->f a=f b) ⟨_,_,rfl,fun j f hj=>by simp at hj⟩ ?_ ?_
 ·rintro p i q ρ e ⟨c3,c4,rfl,low⟩;obtain⟨ip,il⟩:=vt e;have hf:gs[i]?=some (gs.getD i fun x=>x):=by rw[T8,SK il];rfl
  generalize (gs.getD i fun x=>x)=f at hf
  refine Dm.cD rfl (by trivial) ?_;unfold Eb;refine WL (WD (T_ (T_ (S_ rfl (S_ rfl (Ww ?_ rfl rfl (tF n f a a0 a1)))))));refine T_ (S_ rfl (S_ rfl (Ww ?_ rfl rfl (tF n f b b0 b1))));refine Xh (Wx ?_) rfl rfl;by_cases h:f a=f b
  ·refine WY (by simp[h]) (WO ⟨_,_,rfl,fun j g hj hg=>?_⟩);rw[SJ,Uv]at hj;by_cases q:j=i
   ·subst q;rw[hf]at hg;cases hg;exact h
   ·exact low j g (by omega) hg
  ·refine Xv (by simp[h]) (WN (T_ (S_ rfl (V_ (WH ?_ rfl rfl)))));exact⟨_,rfl,.inr ⟨i,f,il,hf,h,fun j g hj=>low j g (by omega),by omega⟩⟩
 ·rintro ρ ⟨c3,c4,rfl,low⟩;rw[S9]at low;exact WN (V_ ⟨0,rfl,.inl ⟨rfl,low⟩⟩)
def Ends(n:Int)(r:List Tie):Prop:=∀t∈r,0<=t.a/\t.a<n/\0<=t.b/\t.b<n
def Ib(k:Nat)(gs:List (Int->Int))(r:List Tie)(ms:List Int):Prop:=gs.length=k/\∀(j:Nat) f,gs[j]?=some f->Tells f (lay r ms ((j:Int)+1))
theorem map_set(n:Nat)(gs:List (Int->Int))(i:Nat)(f:Int->Int):(gs.map (lab n)).set i (lab n f)=(gs.set i f).map (lab n):=by rw[List.map_set]
def Ey(o:Bool)(gs gs':List (Int->Int))(a b:Int)(i:Nat)(num:Int):Prop:=
 (num=0/\gs'=gs/\∀(j:Nat) f,j<i->gs[j]?=some f->f a=f b)\/∃(j:Nat) (f:Int->Int),j<i/\gs[j]?=some f/\f a≠f b/\(∀(j':Nat) f',j'<j->gs[j']?=some f'->f' a=f' b)/\num=(j:Int)+1/\gs'=gs.set j (mgf f (if o then a else b) (if o then b else a))
theorem Ey.num{k:Nat}{o:Bool}{gs gs':List (Int->Int)}(h:Ib k gs r ms)(t:Tie){num:Int}(l:Ey o gs gs' t.a t.b k num):vp k r ms t num/\Ib k gs' (t::r) (num::ms):=by
 obtain⟨hl,ht⟩:=h;rcases l with⟨rfl,rfl,h2⟩ | ⟨j,f,jk,h1,h3,h4,rfl,rfl⟩
 ·refine⟨.inl ⟨rfl,fun j j1 j2=>?_⟩,hl,fun i g hg=>?_⟩
  ·have hj:(j-1).toNat<gs'.length:=by omega
   have:=(ht (j-1).toNat _ (SK hj) t.a t.b).mp (h2 _ _ (by omega) (SK hj));rw[show (((j-1).toNat:Nat):Int)+1=j by omega]at this;exact this
  ·rw[kB,if_neg (by omega)];exact ht i g hg
 ·have hj:j<gs.length:=(Su.mp h1).1;refine⟨.inr ⟨by omega,by omega,fun c=>h3 ((ht j f h1 t.a t.b).mpr c),fun i i1 i2=>?_⟩,by rw[Td];exact hl,fun i g hg=>?_⟩
  ·have hi:(i-1).toNat<gs.length:=by omega
   have:=(ht (i-1).toNat _ (SK hi) t.a t.b).mp (h4 (i-1).toNat _ (by omega) (SK hi));rw[show (((i-1).toNat:Nat):Int)+1=i by omega]at this;exact this
  ·rw[kB];by_cases q:j=i
   ·subst q;rw[SR hj]at hg;cases hg;rw[if_pos rfl];cases o
    ·exact tells_mgf (ht j f h1) t t.b t.a (.inr ⟨rfl,rfl⟩)
    ·exact tells_mgf (ht j f h1) t t.a t.b (.inl ⟨rfl,rfl⟩)
   ·rw[eg q]at hg;rw[if_neg (by omega)];exact ht i g hg
theorem PX(n:Nat)(gs:List (Int->Int)){i:Nat}(h:gs[i]?=some f):gIx (.lst (gs.map (lab n))) (.int (0+(i:Nat)))=some (.val (lab n f)):=by
 have hi:=(Su.mp h).1;rw[Int.zero_add];show (atI (gs.map (lab n)) i).map RV.val=_;rw[Dm.mP (lab n) gs (i:Nat) (by omega) (by omega)];have:gs[((i:Nat):Int).toNat]'(by omega)=f:=by
  have:=Su.mp h
  simpa using this.2
 rw[this];rfl
theorem R5(k:Nat):Ib k ((SH k).map fun _=>(fun x:Int=>x)) [] []:=⟨by simp,fun j f hf=>by
 rw[SS]at hf;cases h:(SH k)[j]? with
 |none=>rw[h]at hf;cases hf
 |some x=>rw[h]at hf;cases hf;exact tells_nil⟩
theorem iP(n k:Nat)(hn:n<=10)(hk1:1<=k)(hk6:k<=6)(r:List Tie)(hr:Ends n r)(hl:r.length<=1000):∃ms:List Int,rm [.int n,aL r,.int k]=some (.new (.lst (ms.map Dat.int)))/\b_ k r ms:=by
 suffices hh:Wr (rm [.int (n:Nat),aL r,.int (k:Nat)]) fun v=>∃ms:List Int,v=.new (.lst (ms.map Dat.int))/\b_ k r ms by obtain⟨v,h1,ms,rfl,h2⟩:=hh;exact⟨ms,h1,h2⟩
 unfold rm
 (refine Dm.WG ?_ rfl rfl;and_intros)
 refine Wv (Xn (WE (m_ (S_ rfl (U_ (Wz (oM k (by omega) (by omega)) ?_ rfl rfl))))));refine Wv (WC (XO (fun i:Nat=>Dat.int (0+(i:Nat))) (SH k) (fun _=>(fun x:Int=>x)) (lab n) (ρ1:=[.sh (.int (n:Nat)),.sh (aL r),.sh (.int (k:Nat)),.un,.un,.un,.un,.un,.un]) ?_ ?_ rfl (by decide) (by rw[S9];unfold SZ;omega) fun i _=>?_) (by decide))
 rotate_left
 ·apply XS;refine Xw (S_ rfl (dW.mk ⟨⟨?_,rfl⟩,by unfold BIG;omega,by unfold BIG;omega⟩));rw[Uz];rfl
 ·refine WM (m_ (S_ rfl (U_ (Zc ?_ rfl (by omega)))));rw[Uz,Ms];exact Xo ⟨rfl,rfl⟩
 refine WQ ?_ (by trivial);refine Wv (WC (Xg (U_ (WZ ?_ rfl rfl (by decide)))) (by decide));refine WQ ?_ (by trivial);refine Wv (W2 (YI (S_ rfl (WJ ⟨_,rfl,?_⟩))));rw[<- List.map_reverse];refine W3 bZ _ _ r.reverse _ _ _ _ _ (fun p q ρ=>∃(gs:List (Int->Int)) (ms:List Int) (c5 c6 c7 c8:Cell),ρ=[.sh (.int (n:Nat)),.sh (aL r),.sh (.int (k:Nat)),.ow (.lst (gs.map (lab n))),.ow (.lst (ms.reverse.map Dat.int)),c5,c6,c7,c8]/\Ib k gs p.reverse ms/\b_ k p.reverse ms) ⟨(SH k).map fun _=>(fun x:Int=>x),[],.un,.un,.un,.un,rfl,R5 k,trivial⟩ ?_ ?_
 ·rintro p t q ρ e ⟨gs,ms,c5,c6,c7,c8,rfl,I,A⟩;have ht:t∈r:=List.mem_reverse.mp (by rw[e];simp);obtain⟨t0,t1,t2,t3⟩:=hr t ht;have lp:ms.length<=1000:=by
   have a:=A.len;have:r.reverse.length=p.length+(q.length+1):=by rw[e];simp
   rw[Uh]at a this;omega
  obtain⟨num,en,ln⟩:=Ex n gs t.a t.b t0 t1 t2 t3;rw[I.1]at ln;refine Dm.cD rfl (by trivial) ?_;unfold Ec;refine Wv (WC (WE (m_ (WU rfl (m_ (S_ rfl (m_ (S_ rfl (U_ (Wz en (Wy ?_ (by trivial)) rfl rfl))))))))) (by decide));refine WX (fun ρ=>∃gs',ρ=[.sh (.int (n:Nat)),.sh (aL r),.sh (.int (k:Nat)),.ow (.lst (gs'.map (lab n))),.ow (.lst (ms.reverse.map Dat.int)),.sh (.int t.m),.sh (.int t.a),.sh (.int t.b),.sh (.int num)]/\Ey true gs gs' t.a t.b k num) ?_ ?_
  ·refine WL (WD (T_ (S_ rfl (V_ (Xz (Wx ?_) rfl rfl)))));rcases ln with⟨rfl,low⟩ | ⟨j,f,jk,hf,ne,low,rfl⟩
   ·exact WY rfl (WO ⟨gs,rfl,.inl ⟨rfl,rfl,low⟩⟩)
   ·have gi:gIx (.lst (gs.map (lab n))) (.int ((j:Int)+1-1))=some (.val (lab n f)):=by
     have:=PX n gs hf;rw[show (j:Int)+1-1=0+(j:Nat) by omega];exact this
    refine Xv (decide_eq_true (by omega)) ?_;refine Yg (WE (m_ (T_ (WU rfl (T_ (S_ rfl (V_ (W_ (Ww ?_ rfl rfl gi) rfl rfl))))))));refine m_ (S_ rfl (m_ (S_ rfl (U_ (WS (BB n hn f t.a t.b t0 t1 t2 t3) ?_ rfl rfl rfl (by trivial))))));refine Xo ⟨⟨_,rfl⟩,T_ (S_ rfl (V_ (W_ (dW.mk ⟨gs.map (lab n),j,_,rfl,?_,rfl,?_⟩) rfl rfl)))⟩
    ·have hj:j<gs.length:=(Su.mp hf).1;rw[Ss];unfold ixN;rw[if_pos (by omega),if_pos (by omega)]
     congr 1
     omega
    ·exact⟨gs.set j (mgf f t.a t.b),by rw[<- map_set];rfl,.inr ⟨j,f,jk,hf,ne,low,rfl,rfl⟩⟩
  ·rintro ρ ⟨gs',rfl,L⟩;obtain⟨h1,h2⟩:=L.num I t;refine Xq (S_ rfl (WJ (oh ?_ rfl (by trivial) (by rw[Ss,Uh];unfold SZ;omega)))) rfl;refine⟨gs',num::ms,.sh (.int t.m),.sh (.int t.a),.sh (.int t.b),.sh (.int num),by rw[VO,S0];rfl,?_⟩;rw[List.reverse_append];exact⟨h2,A,h1⟩
 ·rintro ρ ⟨gs,ms,c5,c6,c7,c8,rfl,I,A⟩;rw[List.reverse_reverse]at A;refine WN (W8 (WU rfl (W0 (v:=.new (.lst (ms.map Dat.int))) ?_ rfl ?_)))
  ·exact⟨ms,rfl,A⟩
  ·unfold nG;dsimp only;rw[<- List.map_reverse,List.reverse_reverse]
theorem Good.mem{n:Int}:∀{r:List Tie} {lo:Int},Good n lo r->∀t∈r,0<=t.a/\t.a<=t.b/\t.b<n
 |[],_,_,t,h=>by cases h
 |x::r,lo,g,t,h=>by
  rcases SD.mp h with rfl | h
  ·exact⟨g.2.1,g.2.2.1,g.2.2.2.1⟩
  ·exact Good.mem g.2.2.2.2 t h
noncomputable def keep(r:List Tie)(ms:List Int):List Tie:=((r.zip ms).filter fun p=>decide (0<p.2)).map (·.1)
theorem lA(t:Tie)(m:Int)(r:List Tie)(ms:List Int):keep (t::r) (m::ms)=if 0<m then t::keep r ms else keep r ms:=by unfold keep;rw[VH,Uj];by_cases h:0<m<;>simp[h]
noncomputable def zE(x:Tie×Int):Dat:=.tup [bZ x.1,.int x.2]
theorem z5:∀(r:List Tie) (ms:List Int),gZ (r.map bZ) (ms.map Dat.int)=(r.zip ms).map zE
 |[],_=>by simp[gZ]
 |_::_,[]=>by simp[gZ]
 |t::r,m::ms=>by rw[Sq,Sq,gZ,z5 r ms,VH,Sq];rfl
theorem Zb(r:List Tie)(ms:List Int)(p:Tie×Int->Bool){k:Nat}{t:FT}{ρ ρ1:Env}(q:Q (.new (aL (((r.zip ms).filter p).map (·.1)))) ρ1)(Mu:it ρ=some (gZ (r.map bZ) (ms.map Dat.int),ρ1))(hk:ρ1.length=k)(hk0:k≠0)(hl:r.length<=SZ)
  (ht:∀x:Tie×Int,Wt t (ρ1++[.sh (bZ x.1),.sh (.int x.2)]) fun c ρ'=>c=p x/\ρ'=ρ1++[.sh (bZ x.1),.sh (.int x.2)]):We (cC it 2 (bT [k,k+1]) t (eV k)) ρ Q:=by
 have b:∀(x:Tie×Int) (c1 c2:Cell),bT [k,k+1] (zE x) (ρ1++[c1,c2])=some (ρ1++[.sh (bZ x.1),.sh (.int x.2)]):=fun x c1 c2=>by show sets [k,k+1] [bZ x.1,.int x.2] _=_;rw[sets,if_neg hk0,sets,if_neg (by omega),sets];rw[Uw _ _ (by omega),Uw _ _ (by omega)];subst hk;rw[Vs,show ρ1.length+1-ρ1.length=1 by omega];rfl
 refine Zd zE (r.zip ms) p (fun x=>x.1) bZ (fun x=>(ρ1++[Cell.sh (bZ x.1),Cell.sh (.int x.2)]:Env)) (own:=2) (bd:=bT [k,k+1]) (Q:=Q) q (by rw[Mu,z5]) (fun x=>b x .un .un) (fun x y=>b x (.sh (bZ y.1)) (.sh (.int y.2))) (fun x=>V9) (by rw[List.length_zip];omega) (fun x _=>ht x) (fun x _ _=>?_);refine S_ (d:=bZ x.1) ?_ (WJ ⟨rfl,rfl⟩);rw[Tc (by omega),hk,Vs];rfl
theorem Mt(r:List Tie):eqD (aL r) (aL r)=true:=by
 unfold aL;rw[eqD]
 induction r with
 |nil=>rfl
 |cons b bs ih=>rw[Sq,jS,ih];simp[bZ,eqD,jS]
theorem YQ{Q:RV->Prop}(hk:okD 8 d=true)(he:eqD d d=true)(k:Q (.val (.bl false)))(ho:o=some d)(hp:p=some d):Wg2 gNe o p Q:=
 ⟨_,_,_,ho,hp,by unfold gNe;rw[hk,he];rfl,k⟩
noncomputable def fX(n k:Nat)(r:List Tie):Dat:=.tup [.int (n:Nat),.int (k:Nat),aL r]
theorem BC{ρ ρ1:Env}{k:Nat}(r:List Tie)(ms:List Int)(q:Q (.new (aL (keep r ms))) ρ1)(Mu:it ρ=some (gZ (r.map bZ) (ms.map Dat.int),ρ1))(hk:ρ1.length=k)(hk0:k≠0)(hl:r.length<=SZ):We (cC it 2 (bT [k,k+1]) (tV (e2 gGt (eV (k+1)) (eC (.int 0)))) (eV k)) ρ Q:=by refine Zb r ms (fun p=>decide (0<p.2)) q Mu hk hk0 hl fun x=>?_;refine WD (T_ (S_ (d:=.int x.2) ?_ (V_ (Xz (Wx ⟨rfl,rfl⟩) rfl rfl))));rw[Tc (by omega),hk];simp
theorem Mv(n k:Nat)(hn:n<=10)(hk1:1<=k)(hk6:k<=6)(r:List Tie)(ms:List Int)(hr:Ends n r)(hl:r.length<=1000)(ha:b_ k r ms):zQ [.int (n:Nat),aL r,.int (k:Nat)]=some (.val (fX n k (keep r ms))):=by
 obtain⟨ms',el,al⟩:=iP n k hn hk1 hk6 r hr hl;rw[al.uniq ha]at el;apply WI;unfold zQ
 (refine Dm.WG ?_ rfl rfl;and_intros)
 refine Wv (WC (WE (m_ (S_ rfl (m_ (S_ rfl (m_ (S_ rfl (U_ (WS el ?_ rfl rfl rfl rfl)))))))) ) (by decide));refine WQ ?_ (by trivial);refine WN (Xy (m_ (S_ rfl (m_ (S_ rfl (m_ (BC (ρ1:=[.sh (.int (n:Nat)),.sh (aL r),.sh (.int (k:Nat)),.sh (.lst (ms.map Dat.int))]) r ms (k:=4) ?_ ?_ rfl (by decide) (S8 hl (by decide)))))))))
 ·exact U_ (WZ rfl rfl rfl (Th rfl))
 ·rfl
theorem vv:∀(r:List Tie) (ms:List Int) (j:Int),1<=j->lay (keep r ms) (ms.filter fun m=>decide (0<m)) j=lay r ms j\/r.length≠ms.length
 |[],[],_,_=>.inl rfl
 |[],_::_,_,_=>.inr (by simp)
 |_::_,[],_,_=>.inr (by simp)
 |t::r,m::ms,j,hj=>by
  rcases vv r ms j hj with ih | ih
  ·left;rw[lA,kB];by_cases h:0<m
   ·rw[if_pos h,T7 (by simpa using h),kB,ih]
   ·rw[if_neg h,T6 (by simpa using h),ih,if_neg (by omega)]
  ·right
   simpa using ih
theorem vz:∀{r:List Tie} {ms:List Int},b_ k r ms->b_ k (keep r ms) (ms.filter fun m=>decide (0<m))
 |[],[],_=>trivial
 |t::r,m::ms,h=>by
  have ih:=vz h.1;rw[lA];by_cases q:0<m
  ·rw[if_pos q,T7 (by simpa using q)];refine⟨ih,?_⟩;have e:∀j,1<=j->lay (keep r ms) (ms.filter fun m=>decide (0<m)) j=lay r ms j:=fun j hj=>by
    rcases vv r ms j hj with z | z
    ·exact z
    ·exact absurd h.1.len.symm z
   rcases h.2 with⟨h0,_⟩ | ⟨h1,h2,h3,h4⟩
   ·omega
   ·exact .inr ⟨h1,h2,by rw[e m h1];exact h3,fun j j1 j2=>by rw[e j j1];exact h4 j j1 j2⟩
  ·rw[if_neg q,T6 (by simpa using q)];exact ih
 |[],_::_,h=>h.elim
 |_::_,[],h=>h.elim
theorem oN:∀(r:List Tie) (ms:List Int),(keep r ms).Sublist r
 |[],ms=>by unfold keep;simp
 |_::_,[]=>by unfold keep;simp
 |t::r,m::ms=>by
  rw[lA];split
  ·exact(oN r ms).cons_cons t
  ·exact(oN r ms).cons t
theorem kC(n i:Int)(h0:0<=i)(h1:i<n):ou [.int n,.int i]=some (.val (.bl true)):=by
 apply WI;unfold ou
 (refine Dm.WG ?_ rfl rfl;and_intros)
 refine WN (WE (m_ (S_ rfl (m_ (V_ (m_ (T_ (S_ rfl (V_ (W_ ?_ rfl rfl))))))))));exact U_ (Wz (dI i 0 (n-1) h0 (by omega)) rfl rfl rfl)
theorem BE(m:Int)(h0:0<=m)(h1:m<=Z30):zD [.int m]=some (.val (.bl true)):=by
 apply WI;unfold zD
 (refine Dm.WG ?_ rfl rfl;and_intros)
 refine WN (WE (m_ (S_ rfl (m_ (V_ (m_ (T_ (V_ (V_ (Xl (z:=Z30) ?_ rfl rfl (by decide) (by decide)))))))))));exact U_ (Wz (dI m 0 Z30 h0 h1) rfl rfl rfl)
theorem BF(n:Int)(t:Tie)(m0:0<=t.m)(m1:t.m<=Z30)(a0:0<=t.a)(a1:t.a<n)(b0:0<=t.b)(b1:t.b<n):zF [.int n,bZ t]=some (.val (.bl true)):=by
 apply WI;unfold zF bZ
 (refine Dm.WG ?_ rfl rfl;and_intros)
 repeat array_get_dec
 refine WY rfl ?_
 repeat array_get_dec
 refine WY rfl ?_
 repeat array_get_dec
 refine Wz (BE t.m m0 m1) ?_ rfl rfl
 repeat array_get_dec
 refine Wz (kC n t.a a0 a1) ?_ rfl rfl
 repeat array_get_dec
 refine Wz (kC n t.b b0 b1) ?_ rfl rfl
 repeat array_get_dec
 rfl
theorem BG(n:Int)(t:Tie)(m0:0<=t.m)(m1:t.m<=Z30)(a0:0<=t.a)(ab:t.a<=t.b)(b1:t.b<n):zG [.int n,bZ t]=some (.val (.bl true)):=by
 apply WI;unfold zG
 (refine Dm.WG ?_ rfl rfl;and_intros)
 repeat array_get_dec
 refine Wz (BF n t m0 m1 a0 (by omega) (by omega) b1) ?_ rfl rfl
 repeat array_get_dec
 exact congrArg (fun b=>RV.val (Dat.bl b)) (decide_eq_true ab)
noncomputable abbrev Ic(D:List Tie):Prop:=D.Pairwise fun t u=>t.m<u.m
theorem Ie(n:Nat):ups 1 n=(SH n).map fun i:Nat=>Dat.int (1+(i:Int)):=rfl
theorem tG(n:Int)(h1:1<=n)(h2:n<=10):zC [.int n]=some (.val (.bl true)):=by
 apply WI;unfold zC
 (refine Dm.WG ?_ rfl rfl;and_intros)
 repeat array_get_dec
 refine Wz (dI n 1 10 h1 h2) ?_ rfl rfl
 repeat array_get_dec
 rfl
theorem tH(n:Int)(h1:1<=n)(h2:n<=6):oz [.int n]=some (.val (.bl true)):=by
 apply WI;unfold oz
 (refine Dm.WG ?_ rfl rfl;and_intros)
 repeat array_get_dec
 refine Wz (dI n 1 6 h1 h2) ?_ rfl rfl
 repeat array_get_dec
 rfl
theorem BH(D:List Tie)(h:Ic D)(hl:D.length<=75):zH [.lst ((D.map (·.m)).map Dat.int)]=some (.val (.bl true)):=by
 have sz:1000<=SZ:=by decide
 apply WI;unfold zH
 (refine Dm.WG ?_ rfl rfl;and_intros)
 refine WN (WM (m_ ?_));have Mu:iR2 (eC (.int 1)) (eB dN [eV 0]) [.sh (.lst ((D.map (·.m)).map Dat.int))]=some ((SH ((D.length:Int)-1).toNat).map (fun i:Nat=>Dat.int (1+(i:Int))),[.sh (.lst ((D.map (·.m)).map Dat.int))]):=by
  refine XS ?_
  repeat array_get_dec
  refine⟨⟨?_,rfl⟩,?_⟩
  ·rw[Ie,Ss]
  ·rw[Ss];unfold BIG;omega
 refine XO (fun i:Nat=>Dat.int (1+(i:Int))) (SH ((D.length:Int)-1).toNat) (fun _=>true) Dat.bl ?_ Mu rfl (by decide) (by simp;omega) (fun i hi=>?_)
 ·refine U_ (Xr (fun b=>b) (xs:=(SH ((D.length:Int)-1).toNat).map fun _=>true) ?_ rfl);exact Ye (congrArg (fun b=>RV.val (Dat.bl b)) (by simp))
 ·have hi':=Tp.mp hi
  repeat array_get_dec
  refine XF (DV:=Dat.int) (xs:=D.map (·.m)) (i:=1+(i:Int)-1) (by omega) (by rw[Ss];omega) ?_ rfl rfl
  repeat array_get_dec
  refine XF (DV:=Dat.int) (xs:=D.map (·.m)) (i:=1+(i:Int)) (by omega) (by rw[Ss];omega) ?_ rfl rfl
  repeat array_get_dec
  have lt:=UD.mp h (1+(i:Int)-1).toNat (1+(i:Int)).toNat (by omega) (by omega) (by omega);refine⟨congrArg Dat.bl (decide_eq_true ?_),rfl⟩;rw[List.getElem_map,List.getElem_map];exact lt
structure Rcd(n:Nat)(r:List Tie):Prop where
 ok:∀t∈r,0<=t.m/\t.m<=Z30/\0<=t.a/\t.a<=t.b/\t.b<n
 up:Ic r
 len:r.length<=60
theorem Rcd.sub{r q:List Tie}(h:Rcd n r)(s:q.Sublist r):Rcd n q:=⟨fun t ht=>h.ok t (s.subset ht),h.up.sublist s,S8 s.length_le h.len⟩
theorem Rcd.ends(h:Rcd n r):Ends n r:=fun t ht=>by obtain⟨h1,h2,h3,h4,h5⟩:=h.ok t ht;exact⟨h3,by omega,by omega,h5⟩
theorem tK(n:Nat)(n1:1<=n)(n10:n<=10)(r:List Tie)(h:Rcd n r):zM [.int (n:Nat),aL r]=some (.val (.bl true)):=by
 have sz:1000<=SZ:=by decide
 have hl:=h.len;apply WI;unfold zM
 (refine Dm.WG ?_ rfl rfl;and_intros)
 repeat array_get_dec
 refine Wz (tG n (by omega) (by omega)) ?_ rfl rfl
 repeat array_get_dec
 refine WY rfl ?_
 repeat array_get_dec
 refine WY rfl ?_
 repeat array_get_dec
 refine WY (decide_eq_false (by rw[Ss];omega)) ?_
 repeat array_get_dec
 refine Xf bZ r (fun _=>true) Dat.bl ?_ rfl rfl rfl (by decide) (by omega) (fun t ht=>?_)
 rotate_left
 ·obtain⟨h1,h2,h3,h4,h5⟩:=h.ok t ht
  repeat array_get_dec
  refine Wz (BG n t h1 h2 h3 h4 h5) ?_ rfl rfl
  repeat array_get_dec
  exact⟨rfl,rfl⟩
 repeat array_get_dec
 refine Xr (fun b=>b) (xs:=r.map fun _=>true) ?_ rfl
 repeat array_get_dec
 refine WY (by simp) ?_
 repeat array_get_dec
 refine Xf bZ r (·.m) Dat.int ?_ rfl rfl rfl (by decide) (by omega) (fun t ht=>?_)
 rotate_left
 ·repeat array_get_dec
  exact⟨rfl,rfl⟩
 repeat array_get_dec
 refine Wz (BH r h.up (by omega)) ?_ rfl rfl
 repeat array_get_dec
 rfl
structure Net(n k:Nat)(N:List Tie):Prop where
 rc:Rcd n N
 num:∃ms,b_ k N ms/\(0:Int)∉ms
theorem BI(n k:Nat)(n1:1<=n)(n10:n<=10)(k1:1<=k)(k6:k<=6)(N:List Tie)(h:Net n k N):zN [fX n k N]=some (.val (.bl true)):=by
 have hl:=h.rc.len;obtain⟨ms,el,al⟩:=iP n k n10 k1 k6 N h.rc.ends (by omega);obtain⟨ms',al',h0⟩:=h.num;rw[al'.uniq al]at h0;apply WI;unfold zN fX
 (refine Dm.WG ?_ rfl rfl;and_intros)
 repeat array_get_dec
 refine WY rfl ?_
 repeat array_get_dec
 refine WY rfl ?_
 repeat array_get_dec
 refine Wz (tH k (by omega) (by omega)) ?_ rfl rfl
 repeat array_get_dec
 refine WY rfl ?_
 repeat array_get_dec
 refine Wz (tK n n1 n10 N h.rc) ?_ rfl rfl
 repeat array_get_dec
 refine WY rfl ?_
 repeat array_get_dec
 refine WS el ?_ rfl rfl rfl (by trivial)
 repeat array_get_dec
 refine YK (xs:=ms) ?_ rfl rfl
 repeat array_get_dec
 exact congrArg (fun b=>RV.val (Dat.bl b)) (by simp[h0])
theorem Rcd.of(g:Good n 0 r)(hl:r.length<=60)(hm:∀t∈r,t.m<=Z30):Rcd n r:=⟨fun t ht=>by
  obtain⟨q1,q2,q3⟩:=Good.mem g t ht;exact⟨Good.lo g t ht,hm t ht,q1,q2,q3⟩,by
  have up:∀(r:List Tie) (lo:Int),Good n lo r->Ic r:=fun r=>by
   induction r with
   |nil=>intro _ _;exact List.Pairwise.nil
   |cons t r ih=>intro lo g;exact T4.mpr ⟨fun u hu=>by have:=Good.lo g.2.2.2.2 u hu;omega,ih _ g.2.2.2.2⟩
  exact up r 0 g,hl⟩
noncomputable def dw(r:List Tie)(t:Int):List Tie:=r.filter fun x=>decide (t<=x.m)
theorem oO(r:List Tie)(hl:r.length<=1000)(t:Int):u_ [aL r,.int t]=some (.new (aL (dw r t))):=by
 apply WI;unfold u_
 (refine Dm.WG ?_ rfl rfl;and_intros)
 refine WN ?_;refine Yr bZ r (fun x=>decide (t<=x.m)) id bZ (d:=aL r) ?_ rfl rfl rfl (by decide) (by unfold SZ;omega) (fun u _=>?_) fun u _ _=>?_
 ·rw[Vz];rfl
 ·exact WD (T_ (T_ (S_ rfl (V_ (Ww (S_ rfl (XT (Wx ⟨rfl,rfl⟩) rfl rfl)) rfl rfl rfl)))))
 ·exact S_ rfl (WJ ⟨rfl,rfl⟩)
theorem Ig(n a b:Int)(a0:0<=a)(a1:a<n)(b0:0<=b)(b1:b<n)(h:a≠b):zI [.int n,.int a,.int b]=some (.val (.bl true)):=by
 apply WI;unfold zI
 (refine Dm.WG ?_ rfl rfl;and_intros)
 refine WN (W9 (WE (m_ (S_ rfl (m_ (S_ rfl (U_ (Wz (kC n a a0 a1) ?_ rfl rfl))))))));refine Wx (W5 (W9 (WE (m_ (S_ rfl (m_ (S_ rfl (U_ (Wz (kC n b b0 b1) ?_ rfl rfl)))))))));refine Wx (W5 (T_ (S_ rfl (S_ rfl (Xh ?_ rfl rfl)))));rw[decide_eq_false h];rfl
theorem kD(n a b:Int)(a0:0<=a)(a1:a<n)(b0:0<=b)(b1:b<n)(h:a≠b):zK [.int n,.int a,.int b]=some (.val .non):=by
 apply WI;unfold zK
 (refine Dm.WG ?_ rfl rfl;and_intros)
 refine WL (WW (WD (WE (m_ (S_ rfl (m_ (S_ rfl (m_ (S_ rfl (U_ (Wz (Ig n a b a0 a1 b0 b1 h) ?_ rfl rfl)))))))))));exact Wx (WK (WO rfl))
theorem vA(n k:Nat)(n1:1<=n)(n10:n<=10)(k1:1<=k)(k6:k<=6)(N:List Tie)(h:Net n k N):zO [fX n k N]=some (.val .non):=by
 apply WI;unfold zO
 (refine Dm.WG ?_ rfl rfl;and_intros)
 exact WL (WW (WD (WE (m_ (S_ rfl (U_ (Wz (BI n k n1 n10 k1 k6 N h) (Wx (WK (WO rfl))) rfl rfl)))))))
def Hg(r:List Tie)(j:Nat)(a b:Int):Prop:=∀S:Int->Bool,S a≠S b->j<=e_ r S
theorem Hg.symm(h:Hg r j a b):Hg r j b a:=fun S hs=>h S (Ne.symm hs)
theorem Ez{K r:List Tie}(h:K.Sublist r)(S:Int->Bool):e_ K S<=e_ r S:=(h.filter _).length_le
theorem Hg.up{K r:List Tie}(s:K.Sublist r)(h:Hg K j a b):Hg r j a b:=fun S hs=>S8 (h S hs) (Ez s S)
theorem Jt(h:Fit n r)(a0:0<=a)(a1:a<n)(b0:0<=b)(b1:b<n){k:Nat}(k6:k<=6) :
  ∃c:Bool,Bu [.int n,aL r,.int a,.int b,.int k]=some (.val (.bl c))/\(c=true->Hg r k a b)/\(c=false->¬Hg r k a b):=by
 obtain⟨c,e,h1,h2⟩:=qy h a0 a1 b0 b1 k6;refine⟨c,e,fun q S hs=>?_,fun q hh=>?_⟩
 ·cases ha:S a
  ·cases hb:S b
   ·rw[ha,hb]at hs;exact absurd rfl hs
   ·have:=h1 q (fun x=>!S x) (by rw[ha];rfl) (by rw[hb];rfl);rw[rE]at this;exact this
  ·cases hb:S b
   ·exact h1 q S ha hb
   ·rw[ha,hb]at hs;exact absurd rfl hs
 ·obtain⟨S,s1,s2,s3⟩:=h2 q;have:=hh S (by rw[s1,s2];decide);omega
theorem EA(j1:1<=j)(PM:a≠b):¬Hg [] j a b:=fun h=>by have:=h (fun x=>decide (x=a)) (by simp[Ne.symm PM]);simp[e_]at this;omega
theorem EB:∀{r:List Tie},Ic r->∀(i:Nat) (h:i<r.length),dw r r[i].m=r.drop i/\dw r (r[i].m+1)=r.drop (i+1)
 |t::r,up,0,_=>by
  obtain⟨p1,p2⟩:=T4.mp up;constructor
  ·refine U4.mpr fun u hu=>decide_eq_true ?_;rcases SD.mp hu with rfl | hu
   ·exact U0 _
   ·exact VR (p1 u hu)
  ·show Wl _ (t::r)=r;rw[Uj,if_neg (by simp;omega)];exact U4.mpr fun u hu=>decide_eq_true (by have:=p1 u hu;show t.m+1<=u.m;omega)
 |t::r,up,i+1,h=>by
  obtain⟨p1,p2⟩:=T4.mp up;have hi:i<r.length:=by simpa using h
  obtain⟨e1,e2⟩:=EB p2 i hi;have lt:=p1 r[i] (UY hi);constructor
  ·show Wl _ (t::r)=r.drop i;rw[Uj,if_neg (by simp;omega)];exact e1
  ·show Wl _ (t::r)=r.drop (i+1);rw[Uj,if_neg (by simp;omega)];exact e2
def Lat(N:List Tie)(j:Nat)(a b:Int):Option Int->Prop
 |none=>¬Hg N j a b
 |some t=>Hg (dw N t) j a b/\¬Hg (dw N (t+1)) j a b
theorem vC(N:List Tie){t t':Int}(h:t<=t'):(dw N t').Sublist (dw N t):=by
 have:dw N t'=(dw N t).filter fun x=>decide (t'<=x.m):=by
  unfold dw;rw[List.filter_filter];refine List.filter_congr fun x _=>?_;by_cases q:t'<=x.m
  ·simp[q,show t<=x.m by omega]
  ·simp[q]
 rw[this];exact Ui
theorem Lat.iff{w:Option Int}(h:Lat N j a b w)(t:Int):Hg (dw N t) j a b↔∃v,w=some v/\t<=v:=by
 cases w with
 |none=>exact⟨fun q=>absurd (q.up Ui) h,fun⟨_,q,_⟩=>by cases q⟩
 |some v=>
  constructor
  ·intro q;refine⟨v,rfl,Int.not_lt.mp fun l=>h.2 (q.up (vC N (by omega)))⟩
  ·rintro⟨_,q,l⟩;cases q;exact h.1.up (vC N l)
noncomputable def Mw:Option Int->Dat
 |none=>.non
 |some t=>.int t
theorem EC(N:List Tie)(i:Int)(h0:0<=i)(h1:i<=N.length):DR N (some i) none=N.drop i.toNat:=by
 unfold DR sIx;dsimp only;rw[if_neg (by omega)];have:(min i ((N.length:Nat):Int)).toNat=i.toNat:=by omega
 rw[this];exact List.take_of_length_le (by rw[UH];exact SA _)
theorem Rcd.fit(n10:n<=10)(h:Rcd n N):Fit n N:=⟨by omega,fun t ht=>by
 obtain⟨_,_,h3,h4,h5⟩:=h.ok t ht;exact⟨h3,by omega,by omega,h5⟩,by
 have:=h.up;unfold List.Nodup;rw[List.pairwise_map];exact this.imp fun q e=>by omega,by have:=h.len;omega⟩
theorem rF(n10:n<=10)(hN:Rcd n N)(a0:0<=a)(a1:a<n)(b0:0<=b)(b1:b<n)(PM:a≠b)(j1:1<=j)(j6:j<=6) :
  ∃w:Option Int,rz [.int n,aL N,.int a,.int b,.int (j:Nat)]=some (.val (Mw w))/\Lat N j a b w/\∀t,w=some t->∃u∈N,u.m=t:=by
 have lN:=hN.len;have fit:=hN.fit n10
 suffices hh:Wr (rz [.int n,aL N,.int a,.int b,.int (j:Nat)]) fun v=>∃w:Option Int,v=.val (Mw w)/\Lat N j a b w/\∀t,w=some t->∃u∈N,u.m=t by obtain⟨v,h1,w,rfl,h2⟩:=hh;exact⟨w,h1,h2⟩
 obtain⟨c,e,c1,c2⟩:=Jt fit a0 a1 b0 b1 j6;unfold rz
 (refine Dm.WG ?_ rfl rfl;and_intros)
 refine Wv (WL (WW (WD (WE ?_))));refine m_ (S_ rfl (m_ (S_ rfl (m_ (S_ rfl (m_ (S_ rfl (m_ (S_ rfl (U_ (Wz e (Wx ?_) rfl rfl)))))))))));cases c with
 |false=>exact W5 (WN (V_ ⟨none,rfl,c2 rfl,fun t h=>by cases h⟩))
 |true=>
 refine WK (WO ?_);have h0:=c1 rfl;have lp:0<N.length:=by
  cases N with
  |nil=>exact absurd h0 (EA j1 PM)
  |cons _ _=>exact VU _
 refine Wv (WC (V_ (Wy ?_ (by trivial))) (by decide));refine Wv (WC (WM (m_ (S_ rfl (U_ (Xe (DV:=bZ) (xs:=N) (Wy ?_ (by trivial)) rfl))))) (by decide));refine WX (fun ρ=>∃(lo:Nat) (c7:Cell),lo<N.length/\Hg (N.drop lo) j a b/\¬Hg (N.drop (lo+1)) j a b/\ρ=[.sh (.int (n:Nat)),.sh (aL N),.sh (.int a),.sh (.int b),.sh (.int (j:Nat)),.sh (.int (lo:Nat)),.sh (.int ((lo+1:Nat):Int)),c7]) ?_ ?_
 ·refine XC (fun k ρ=>∃(lo hi:Nat) (c7:Cell),k=hi-lo/\lo<hi/\hi<=N.length/\Hg (N.drop lo) j a b/\¬Hg (N.drop hi) j a b/\ρ=[.sh (.int (n:Nat)),.sh (aL N),.sh (.int a),.sh (.int b),.sh (.int (j:Nat)),.sh (.int (lo:Nat)),.sh (.int (hi:Nat)),c7]) ?_ 100 N.length _ (by omega) ⟨0,N.length,_,by omega,lp,SA _,h0,by rw[Up];exact EA j1 PM,rfl⟩;rintro k ρ ⟨lo,hi,c7,rfl,l1,l2,g1,g2,rfl⟩;refine WD (T_ (T_ (S_ rfl (S_ rfl (W_ (V_ (Xz (Wx (Xc (fun q=>?_) fun q=>?_)) rfl rfl)) rfl rfl)))))
  ·unfold Ed;refine Wv (WC (T_ (T_ (S_ rfl (S_ rfl (WH (V_ (XG ?_ rfl rfl ⟨by decide,by decide⟩)) rfl rfl))))) (by decide));obtain⟨mi,em⟩:∃mi:Nat,((lo:Nat)+(hi:Nat):Int) / 2=(mi:Nat):=⟨(((lo:Nat)+(hi:Nat):Int) / 2).toNat,by omega⟩
   have m1:lo<mi:=by omega
   have m2:mi<hi:=by omega
   rw[em];refine Wy ?_ (by trivial);obtain⟨c,e,c1,c2⟩:=Jt (fit.sub (List.drop_sublist mi N)) a0 a1 b0 b1 j6;refine WL (WD (WE (m_ (S_ rfl (m_ (Yv ?_))))));refine S_ rfl (Wp.some (S_ rfl (dW.mk (Wp.none (Wsl.A (DV:=bZ) (xs:=N) ?_ rfl)))));rw[EC N mi (by omega) (by omega),Uz];refine m_ (S_ rfl (m_ (S_ rfl (m_ (S_ rfl (U_ (Wz e (Wx ?_) rfl rfl)))))));cases c with
   |true=>exact W5 (WC (S_ rfl (Wy ⟨hi-mi,by omega,mi,hi,_,rfl,m2,l2,c1 rfl,g2,rfl⟩ (by trivial))) (by decide))
   |false=>exact WK (WC (S_ rfl (Wy ⟨mi-lo,by omega,lo,mi,_,rfl,m1,by omega,g1,c2 rfl,rfl⟩ (by trivial))) (by decide))
  ·have:hi=lo+1:=by omega
   subst this;exact⟨lo,_,by omega,g1,g2,rfl⟩
 ·rintro ρ ⟨lo,c7,l1,g1,g2,rfl⟩;obtain⟨e1,e2⟩:=EB hN.up lo l1;refine WN (T_ (T_ (S_ rfl (S_ rfl (XF (DV:=bZ) (xs:=N) (by omega) (by omega) (V_ (Ww (v:=.int (N[lo]).m) ?_ rfl rfl ?_)) rfl rfl)))))
  ·exact⟨some N[lo].m,rfl,⟨by rw[e1];exact g1,by rw[e2];exact g2⟩,fun t h=>by cases h;exact⟨_,UY l1,rfl⟩⟩
  ·simp only[Uz];rfl
theorem ig{n k j:Nat}(n1:1<=n)(n10:n<=10)(k1:1<=k)(k6:k<=6)(j1:1<=j)(jk:j<=k)(h:Net n k N):zP [fX n k N,.int (j:Nat)]=some (.val .non):=by
 apply WI;unfold zP
 (refine Dm.WG ?_ rfl rfl;and_intros)
 refine Wv (Xn (WE (m_ (S_ rfl (U_ (Wz (vA n k n1 n10 k1 k6 N h) ?_ rfl rfl))))));refine WL (WW (WD (WE (m_ (S_ rfl (m_ (V_ (m_ (T_ (S_ rfl (V_ (Ww (v:=.int (k:Nat)) ?_ rfl rfl rfl))))))))))));exact U_ (Wz (dI j 1 k (by omega) (by omega)) (Wx (WK (WO rfl))) rfl rfl)
noncomputable def cu(d1 d2:Dat):Option Int->Dat
 |none=>.tup [.str [110,101,118,101,114],d2]
 |some t=>.tup [.str [115,105,110,99,101],.int t,d1,d2]
theorem rG(ms:List Int):lU (ms.map Dat.int)=some ms:=by
 induction ms with
 |nil=>rfl
 |cons m ms ih=>rw[Sq,lU,ih];rfl
theorem vD:∀(ns En:List Int),ns.Nodup->(∀x∈ns,x∉En)->ns.foldl (fun En x=>if En.any (· == x) then En else En++[x]) En=En++ns
 |[],En,_,_=>by simp
 |x::ns,En,h,k=>by
  rw [V1,if_neg fun z=>by
   obtain⟨y,hy,e⟩:=Vj.mp z;have:y=x:=by simpa using e
   exact k x Sw (this▸hy)]
  rw[vD ns (En++[x]) (SV.mp h).2 fun y hy z=>?_]
  ·simp
  ·rcases S4.mp z with z | z
   ·exact k y (Sy _ hy) z
   ·rw[SY]at z;exact(SV.mp h).1 (z▸hy)
theorem oQ(h:ns.Nodup):dedup ns=ns:=by unfold dedup;rw[vD ns [] h (by simp)];rfl
theorem rH(h:ms.Nodup)(hl:ms.length<=4000):fm (.lst (ms.map Dat.int))=some (.val (.int (ms.length:Nat))):=by unfold fm;dsimp only;rw[rG];dsimp only;rw[if_pos hl,oQ h]
theorem Ju(h:S.Pairwise (· < ·)):S.Nodup:=h.imp fun h=>Int.ne_of_lt h
theorem yk(h:S.Pairwise (· < ·))(hl:S.length<=17):eX (tupI S)=some (.new (.lst (S.map Dat.int))):=by unfold eX tupI;dsimp only;rw[rG];dsimp only;rw[oQ (Ju h),if_pos hl];have:cU (fun a b=>decide (a<b)) S=S:=uY (List.Perm.refl _) (h.imp fun h=>VR h);rw[this]
theorem kE(r:List Tie)(hl:r.length<=1000)(t:Int):zR [aL r,.int t]=some (.new (aL (dw r t))):=oO r hl t
theorem fH(i:Int):zS [.int i]=some (.val (.bl true)):=vo i
theorem tL(xs:List α):xs.all (fun _=>true)=true:=by induction xs<;>simp
theorem ED(ms:List Int)(h:ms.length<=1000):oA [.lst (ms.map Dat.int)]=some (.val (.bl true)):=by
 apply WI;unfold oA
 (refine Dm.WG ?_ rfl rfl;and_intros)
 refine WN (WM (m_ (Xf Dat.int ms (fun _=>true) Dat.bl (d:=.lst (ms.map Dat.int)) ?_ rfl rfl rfl (by decide) (by unfold SZ;omega) fun x hx=>?_)))
 ·refine U_ (Xr (fun _=>true) ?_ (by rw[TN];rfl));rw[tL];rfl
 ·exact WE (m_ (S_ rfl (U_ (Wz (fH x) (WJ ⟨rfl,rfl⟩) rfl rfl))))
theorem EE(ms:List Int)(h:ms.length<=1000):oA [tupI ms]=some (.val (.bl true)):=by
 apply WI;unfold oA
 (refine Dm.WG ?_ rfl rfl;and_intros)
 refine WN (WM (m_ (Xf Dat.int ms (fun _=>true) Dat.bl (d:=tupI ms) ?_ rfl rfl rfl (by decide) (by unfold SZ;omega) fun x hx=>?_)))
 ·refine U_ (Xr (fun _=>true) ?_ (by rw[TN];rfl));rw[tL];rfl
 ·exact WE (m_ (S_ rfl (U_ (Wz (fH x) (WJ ⟨rfl,rfl⟩) rfl rfl))))
theorem EF(r:List Tie)(hl:r.length<=1000)(S:List Int):vd [aL r,tupI S]=some (.new (.lst ((kr r S).map Dat.int))):=by
 apply WI;unfold vd
 (refine Dm.WG ?_ rfl rfl;and_intros)
 refine WN ?_;refine X4 bZ r (ovr S) (fun t=>.int t.m) ?_ rfl rfl rfl (by decide) (by unfold SZ;omega) (fun u _=>?_) fun u _ _=>?_
 ·show _=_;unfold kr;rw[TN];rfl
 ·refine WD (T_ (T_ (T_ (S_ rfl (V_ (Ww (v:=.int u.a) ?_ rfl rfl rfl))))));refine S_ rfl (XI (xs:=S) ?_ rfl rfl);refine T_ (T_ (S_ rfl (V_ (Ww (v:=.int u.b) ?_ rfl rfl rfl))));refine S_ rfl (XI (xs:=S) ?_ rfl rfl);exact X3 (Wx ⟨rfl,rfl⟩) rfl rfl
 ·exact T_ (S_ rfl (V_ (Ww (v:=.int u.m) (WJ ⟨rfl,rfl⟩) rfl rfl rfl)))
theorem Za{a b c:FE}{i j k:Int}(ha:a ρ=some (.val (.int i),ρ))(hb:b ρ=some (.val (.int j),ρ))(hc:c ρ=some (.val (.int k),ρ))(h1:i<=j)(h2:j<k)(q:Q (.val (.bl true)) ρ):We (f_ gLe gLt a b c) ρ Q:=by
 refine⟨_,_,?_,q⟩;unfold f_;rw[ha];dsimp only;rw[hb];dsimp only[pk];have e1:gLe (.int i) (.int j)=some (.val (.bl true)):=by unfold gLe;dsimp only;rw[decide_eq_true h1]
 have e2:gLt (.int j) (.int k)=some (.val (.bl true)):=by unfold gLt;dsimp only;rw[decide_eq_true h2]
 rw[e1];dsimp only;rw[hc];dsimp only[pk];rw[e2];rfl
theorem oR(n10:n<=10)(s:tw n a b S)(hl:S.length<=17):ve [.int (n:Nat),tupI S,.int a,.int b]=some (.val (.bl true)):=by
 obtain⟨s1,s2,s3,s4⟩:=s;apply WI;unfold ve
 (refine Dm.WG ?_ rfl rfl;and_intros)
 refine Wv (WL (W6 (WW (WD (W8 (S_ rfl (W0 (v:=.val (.bl true)) (Wx (WK ?_)) rfl rfl)))))));refine W6 (WW (WD (WE (m_ (S_ rfl (U_ (Wz (EE S (by omega)) (Wx (WK ?_)) rfl rfl)))))));refine WD (T_ (WM (m_ (S_ rfl (U_ ⟨_,_,rfl,rfl,?_⟩)))));refine W8 (S_ rfl (W0 (v:=.new (.lst (S.map Dat.int))) ?_ rfl (yk s1 hl)));refine Yx (N:=S) (M:=S) ?_ rfl rfl;rw[decide_eq_true rfl];refine Wx (WK (WO ?_));refine WN (W9 (WM (m_ (Xf Dat.int S (fun _=>true) Dat.bl (d:=tupI S) ?_ rfl rfl rfl (by decide) (by unfold SZ;omega) fun x hx=>?_))))
 ·refine U_ (Xr (fun _=>true) ?_ (by rw[TN];rfl));rw[tL];refine Wx (W5 ?_);refine W9 (T_ (S_ rfl (S_ rfl (XI (xs:=S) ?_ rfl rfl))));rw[decide_eq_true s3];refine Wx (W5 ?_);refine T_ (S_ rfl (S_ rfl (Yk (xs:=S) ?_ rfl rfl)));rw[decide_eq_false s4];rfl
 ·exact Za (i:=0) (j:=x) (k:=(n:Nat)) rfl rfl rfl (s2 x hx).1 (s2 x hx).2 (WJ ⟨rfl,rfl⟩)
noncomputable def prD(t:Tie):Dat:=.tup [.int t.a,.int t.b]
noncomputable def enK(r:List Tie):List Int:=r.map (·.m)
noncomputable def enV(r:List Tie):List Dat:=r.map prD
theorem vE:∀{r:List Tie},t∈r->(enK r).Nodup->bA (enK r) (enV r) t.m=some (prD t)
 |[],h,_=>by cases h
 |u::r,h,nd=>by
  show (if u.m=t.m then some (prD u) else bA (enK r) (enV r) t.m)=_;obtain⟨n1,n2⟩:=SV.mp (show (u.m::enK r).Nodup from nd);rcases SD.mp h with rfl | h
  ·rw[if_pos rfl]
  ·have hm:t.m∈enK r:=SW.mpr ⟨t,h,rfl⟩;rw[if_neg fun z=>n1 (by rw[z];exact hm)];exact vE h n2
theorem EG(n10:n<=10)(r:List Tie)(hp:Pl n r)(nd:(r.map (·.m)).Nodup)(hl:r.length<=1000)(a b:Int)(w:List Step)(sw:oF (eY r) a w b)(wm:(mso w).Nodup)(wl:w.length<=1000) :
  zT [aL r,.int a,.int b,msD w]=some (.val (.bl true)):=by
 apply WI;unfold zT
 (refine Dm.WG ?_ rfl rfl;and_intros)
 have ml:(mso w).length<=1000:=by unfold mso;rw[Ss];exact wl
 refine Wv (WL (W6 (WW (WD (W8 (S_ rfl (W0 (v:=.val (.bl true)) (Wx (WK ?_)) rfl rfl)))))));refine W6 (WW (WD (WE (m_ (S_ rfl (U_ (Wz (ED (mso w) ml) (Wx (WK ?_)) rfl rfl)))))));refine WD (T_ (W8 (S_ rfl (W0 (v:=.val (.int ((mso w).length:Nat))) ?_ rfl (rH wm (by omega))))));refine WM (m_ (S_ rfl (U_ (Xe (DV:=Dat.int) (xs:=mso w) ?_ rfl))));refine Xh ?_ rfl rfl;rw[decide_eq_true rfl];refine Wx (WK (WO ?_));refine Wv (WC (X7 (WQ ?_ (by trivial))) (by decide));refine Wv (W2 (Xx (S_ rfl (WJ (fG ?_)))));refine W3 bZ _ _ r _ _ _ _ _ (fun p q ρ=>∃c5,ρ=[.sh (aL r),.sh (.int a),.sh (.int b),.sh (msD w),.ow (.dct (enK p) (enV p)),c5,.un,.un]) ⟨_,rfl⟩ ?_ ?_
 ·rintro p t q ρ e ⟨c5,rfl⟩;refine Dm.cD rfl (by trivial) ?_;unfold Eh;refine XJ (Xy (m_ (T_ (S_ rfl (V_ (Ww (v:=.int t.a) ?_ rfl rfl rfl))))));refine m_ (T_ (S_ rfl (V_ (Ww (v:=.int t.b) ?_ rfl rfl rfl))));refine U_ (WZ ?_ rfl rfl (by exact Th rfl));refine WJ ⟨⟨_,rfl⟩,T_ (S_ rfl (V_ (Ww (v:=.int t.m) (dW.mk (mO ?_ rfl rfl ?_)) rfl rfl rfl)))⟩
  ·have hm:t.m∉enK p:=by
    rw[e,S0,Sq]at nd;exact fun z=>(Tv.mp nd).2.2 t.m z t.m Sw rfl
   obtain⟨k1,k2⟩:=sY (vs:=enV p) (d:=prD t) hm;refine⟨.sh (bZ t),?_⟩;show [_,_,_,_,Cell.ow (.dct (j8 (enK p) t.m) (j9 (enK p) (enV p) t.m (prD t))),_,_,_]=_;rw[k1,k2];unfold enK enV;rw[S0,S0];rfl
  ·have:=congrArg List.length e;rw[SJ]at this;unfold enK SZ;rw[Ss];omega
 ·rintro ρ ⟨c5,rfl⟩;refine Wv (WC (S_ rfl (Wy ?_ (by trivial))) (by decide));refine Wv (W2 (Xx (S_ rfl (WJ (fG ?_)))));refine W3 Dat.int _ _ (mso w) _ _ _ _ _ (fun pm qm ρ=>∃(x:Int) (v:List Step) (c7:Cell),ρ=[.sh (aL r),.sh (.int a),.sh (.int b),.sh (msD w),.ow (.dct (enK r) (enV r)),c5,.sh (.int x),c7]/\qm=mso v/\Way (eY r) x v b) ⟨a,w,_,rfl,rfl,sw.way⟩ ?_ ?_
  ·rintro pm m qm ρ em ⟨x,v,c7,rfl,eqw,hw⟩;cases v with
   |nil=>cases eqw
   |cons s v=>
    obtain⟨⟨t,ht,tm,te⟩,hw⟩:=hw;have R7:m=s.1/\qm=mso v:=by
     have:m::qm=s.1::mso v:=eqw;injection this with z1 z2
     exact⟨z1,z2⟩
    obtain⟨rfl,rfl⟩:=R7;refine Dm.cD rfl (by trivial) ?_;unfold Ei;have lk:bA (enK r) (enV r) s.1=some (prD t):=by rw[<- tm];exact vE ht nd
    obtain⟨p1,p2,p3,p4⟩:=hp t ht;refine Wv (WL (W6 (WD (T_ (S_ rfl (WU rfl (XQ ?_ rfl rfl)))))));rw[lk];refine Wx (WK ?_);refine W6 (WD (T_ (S_ rfl (T_ (WU rfl (S_ rfl (Xd lk ?_ rfl rfl)))))));refine Yh (a:=t.a) (b:=t.b) ?_ rfl rfl;rw[decide_eq_true (show x=t.a\/x=t.b by obtain⟨_,h | h⟩:=te;exact .inl h.1.symm;exact .inr h.1.symm)];refine Wx (WK ?_);refine WD (T_ (T_ (T_ (WU rfl (S_ rfl (Xd lk ?_ rfl rfl))))));refine V_ (Ww (v:=.int t.a) ?_ rfl rfl rfl);refine T_ (T_ (WU rfl (S_ rfl (Xd lk ?_ rfl rfl))));refine V_ (Ww (v:=.int t.b) ?_ rfl rfl rfl);refine W7 ?_ rfl rfl;rw[decide_eq_false te.1];refine Wx (WK (WO ?_));refine WC (T_ (WM (m_ (T_ (WU rfl (S_ rfl (Xd lk ?_ rfl rfl))))))) (by decide);refine U_ (XW (a:=t.a) (b:=t.b) ?_ rfl (by omega));refine S_ rfl (W_ ?_ rfl rfl);refine Wy ⟨s.2,v,.sh (.int s.1),?_,rfl,hw⟩ (by trivial);have:t.a+t.b-x=s.2:=by obtain⟨_,h | h⟩:=te<;>omega
    rw[this]
  ·rintro ρ ⟨x,v,c7,rfl,eqw,hw⟩;cases v with
   |cons s v=>cases eqw
   |nil=>cases hw;refine WN (T_ (S_ rfl (S_ rfl (W7 ?_ rfl rfl))));rw[decide_eq_true rfl];rfl
theorem vF(n10:n<=10)(r:List Tie)(hp:Pl n r)(nd:(r.map (·.m)).Nodup)(hl:r.length<=1000)(a b:Int)(ws:List (List Step))(W:Es r a b ws)(hf:(ws.map mso).flatten.length<=1000)(hc:ws.length<=1000) :
  zU [aL r,.int a,.int b,.lst (ws.map msD)]=some (.val (.bl true)):=by
 apply WI;unfold zU
 (refine Dm.WG ?_ rfl rfl;and_intros)
 refine Wv (WL (WW (WD (W8 (S_ rfl (W0 (v:=.val (.bl true)) (Wx (WK (WO ?_))) rfl rfl))))));refine Wv (WC (Xg (U_ (WZ ?_ rfl rfl (by decide)))) (by decide));refine WQ ?_ (by trivial);refine Wv (W2 (Xx (S_ rfl (WJ (fG ?_)))));refine W3 msD _ _ ws _ _ _ _ _ (fun p q ρ=>∃c5,ρ=[.sh (aL r),.sh (.int a),.sh (.int b),.sh (.lst (ws.map msD)),.ow (.lst ((p.map mso).flatten.map Dat.int)),c5]) ⟨_,rfl⟩ ?_ ?_
 ·rintro p w q ρ e ⟨c5,rfl⟩;refine Dm.cD rfl (by trivial) ?_;unfold Ej;have hw:w∈ws:=by rw[e];simp
  have fl:(ws.map mso).flatten=(p.map mso).flatten++(mso w++(q.map mso).flatten):=by rw[e];simp
  have fl2:(ws.map mso).flatten.length=(p.map mso).flatten.length+((mso w).length+(q.map mso).flatten.length):=by rw[fl,SJ,SJ]
  have wl:w.length=(mso w).length:=by unfold mso;rw[Ss]
  have wm:(mso w).Nodup:=by have:=W.nd;rw[fl]at this;exact(Tv.mp (Tv.mp this).2.1).1
  refine Wv (WL (WW (WD (WE ?_))));refine m_ (S_ rfl (m_ (S_ rfl (m_ (S_ rfl (m_ (S_ rfl (U_ (Wz (EG n10 r hp nd hl a b w (W.way w hw) wm (by omega)) (Wx (WK (WO ?_))) rfl rfl)))))))));refine YN (S_ rfl ⟨(mso w).map Dat.int,(p.map mso).flatten.map Dat.int,_,rfl,rfl,rfl,⟨.sh (msD w),?_⟩,?_⟩) rfl
  ·rw[S0,Vu,S0];simp
  ·rw[Ss,Ss];unfold SZ;omega
 ·rintro ρ ⟨c5,rfl⟩;refine WN (T_ (W8 (WU rfl (W0 (v:=.val (.int ((ws.map mso).flatten.length:Nat))) ?_ rfl (rH W.nd (by omega))))));refine WM (m_ (WU rfl (U_ (Xe (DV:=Dat.int) (xs:=(ws.map mso).flatten) ?_ rfl))));refine W7 ?_ rfl rfl;rw[decide_eq_true rfl];rfl
theorem Apart.R8{a b most:Int}{o:Option (List Int)}(A:Apart n r a b most ws o):(ws.map mso).flatten.length<=r.length:=by
 have sub:∀m∈(ws.map mso).flatten,m∈r.map (·.m):=fun m hm=>by obtain⟨l,hl,hm⟩:=List.mem_flatten.mp hm;obtain⟨w,hw,rfl⟩:=SW.mp hl;obtain⟨s,hs,rfl⟩:=SW.mp hm;exact s_ (fun p s z=>z) (A.ways.way w hw).way s hs
 have:=A.ways.nd.length_le_of_subset (fun m hm=>sub m hm);rw[Ss]at this;exact this
theorem EH(x many:Int)(m0:0<=many)(m1:many<=60):∃(r:List Tie) (x':Int),vg [aR x,.int 10,.int many]=some (.new (aL r),aR x')/\Good 10 0 r/\r.length<=60/\∀t∈r,t.m<=Z30:=by
 have sz:1000<=SZ:=by decide
 suffices hh:WrM (vg [aR x,.int 10,.int many]) fun v d=>∃(r:List Tie) (x':Int),v=.new (aL r)/\d=aR x'/\Good 10 0 r/\r.length<=60/\∀t∈r,t.m<=Z30 by obtain⟨v,d,h1,r,x',rfl,rfl,h2⟩:=hh;exact⟨r,x',h1,h2⟩
 unfold vg;refine Xp ?_ rfl rfl;and_intros;refine Wv (WC (Xg (U_ (WZ ?_ rfl rfl (by decide)))) (by decide));refine WQ ?_ (by trivial);refine Wv (WC ?_ (by decide));refine WV (m:=9) rfl (by decide) (by decide) rfl fun mo x1 h0 h1 ρ3 e=>?_;subst e;refine Wy ?_ (by trivial);refine Wv (W2 (Xw (S_ rfl (dW.mk ⟨?_,by unfold BIG;omega⟩))));refine W3 (fun i:Nat=>Dat.int (0+(i:Nat))) _ _ (SH many.toNat) _ _ _ _ _ (fun p q ρ=>∃(x mo:Int) (r:List Tie) (c5 c6 c7:Cell),ρ=[.ow (aR x),.sh (.int 10),.sh (.int many),.ow (aL r),.sh (.int mo),c5,c6,c7]/\Good 10 0 r/\r.length=p.length/\(∀u∈r,u.m<mo)/\0<=mo/\mo<=9+4*(p.length:Int)) ⟨_,_,[],_,_,_,rfl,trivial,rfl,fun u hu=>(by cases hu),h0,by simp;omega⟩ ?_ ?_
 ·rintro p i q ρ e ⟨x,mo,r,c5,c6,c7,rfl,hg,hl,hu,hm,hM⟩;have lp:p.length<60:=by
   have:=congrArg List.length e;simp at this;omega
  refine Dm.cD rfl (by trivial) ?_;unfold Ek;refine Wv (WC ?_ (by decide));refine WV (m:=10) rfl (by decide) (by decide) rfl fun a x1 a0 a1 ρ3 e3=>?_;subst e3;refine Wy ?_ (by trivial);refine Wv (WC (T_ (T_ (T_ (S_ rfl (V_ (WH ?_ rfl rfl)))))) (by decide));refine XX (T_ (S_ rfl (V_ (W_ (dW.mk (zY ?_ rfl rfl (by decide) (by decide))) rfl rfl)))) rfl;have hv:=cS x1 (10-1) (by decide)
  generalize x1 % (10-1)=d at hv
  refine WH (S_ rfl (W4 ?_ rfl rfl (by decide))) rfl rfl;have hb:=cS (a+1+d) 10 (by decide)
  generalize (a+1+d) % 10=b at hb
  refine Wy ?_ (by trivial);refine Wv (Xq (Xy (m_ (S_ rfl (m_ (WM ?_))))) rfl);refine m_ (S_ rfl (m_ (S_ rfl (U_ (Xi ?_ rfl)))));refine m_ (WM (m_ (S_ rfl (m_ (S_ rfl (U_ (Xj ?_ rfl)))))));refine U_ (WZ ?_ rfl rfl (Th rfl));refine WJ (oh (ds:=r.map bZ) (ρ3:=[.ow (aR (x1 / (10-1))),.sh (.int 10),.sh (.int many),.ow (aL (r++[⟨mo,if b<a then b else a,if b>a then b else a⟩])),.sh (.int mo),.sh (.int (0+(i:Nat))),.sh (.int a),.sh (.int b)]) ?_ rfl (by unfold aL;rw[S0];rfl) (by rw[Ss];omega));refine WC (T_ (T_ (S_ rfl (V_ (WH ?_ rfl rfl))))) (by decide);refine WV (m:=3) rfl (by decide) (by decide) rfl fun d x3 d0 d1 ρ3 e3=>?_;subst e3;refine WH (Wy ⟨x3,mo+1+d,r++[⟨mo,if b<a then b else a,if b>a then b else a⟩],_,_,_,rfl,?_,by simp[hl],fun u hu'=>?_,by omega,by simp;omega⟩ (by trivial)) rfl rfl
  ·refine hg.snoc hu hm rfl ?_ (zZ a b) ?_
   ·show 0<=(if b<a then b else a)
    split<;>omega
   ·show (if b>a then b else a)<10;split<;>omega
  ·rcases S4.mp hu' with h | h
   ·have:=hu u h;omega
   ·rw[SY.mp h];show mo<_;omega
 ·rintro ρ ⟨x,mo,r,c5,c6,c7,rfl,hg,hl,hu,hm,hM⟩;rw[S9]at hl hM;refine WN (WU rfl (Xk ?_ rfl));refine⟨_,rfl,r,x,rfl,rfl,hg,by omega,fun t ht=>?_⟩;have:=hu t ht;unfold Z30;omega
theorem Yb{n m:Nat}{g:FSP}{ds:List Dat}{q:Dp}(h:Wq g ρ fun p=>p=q)(hl:ds.length=n)(e:ds.map Cell.sh++Sv m .un=ρ):fnP n m g ds=some q:=by obtain⟨p,e1,rfl⟩:=X8 h hl e;exact e1
theorem Apart.hg(A:Apart n r a b (j:Nat) ws none):Hg r j a b:=fun S hs=>by
 have h0:=A.all rfl;cases ha:S a
 ·cases hb:S b
  ·rw[ha,hb]at hs;exact absurd rfl hs
  ·have:=Mr A.ways (S:=fun x=>!S x) (by rw[ha];rfl) (by rw[hb];rfl);rw[rE]at this;omega
 ·cases hb:S b
  ·have:=Mr A.ways ha hb;omega
  ·rw[ha,hb]at hs;exact absurd rfl hs
theorem Apart.no(A:Apart n r a b (j:Nat) ws (some S)):¬Hg r j a b:=fun hh=>by
 obtain⟨⟨_,_,h1,h2⟩,h3,h4⟩:=A.side S rfl;have:=hh (fun x=>decide (x∈S)) (by rw[decide_eq_true h1,decide_eq_false h2];decide);have e:e_ r (fun x=>decide (x∈S))=(kr r S).length:=by unfold kr;rw[Ss];rfl
 omega
noncomputable def oS(ws:List (List Step))(o:Option (List Int)):Option Int->Dp
 |none=>.s (.tup [.str [110,101,118,101,114],aH o])
 |some t=>.t [.s (.str [115,105,110,99,101]),.s (.int t),.l (ws.map msP),.s (aH o)]
def Mx(n:Nat)(N:List Tie)(j:Nat)(a b:Int)(ws:List (List Step))(o:Option (List Int)):Option Int->Prop
 |none=>∃S,o=some S/\tw n a b S/\(kr N S).length<j
 |some t=>(∃S,o=some S/\tw n a b S/\(kr (dw N (t+1)) S).length<j)/\ws.length=j/\Es (dw N t) a b ws/\(ws.map mso).flatten.length<=(dw N t).length
theorem rJ{n k j:Nat}(n1:1<=n)(n10:n<=10)(k1:1<=k)(k6:k<=6)(j1:1<=j)(jk:j<=k)(h:Net n k N)(a0:0<=a)(a1:a<n)(b0:0<=b)(b1:b<n)(PM:a≠b){w:Option Int}
  (ew:rz [.int n,aL N,.int a,.int b,.int (j:Nat)]=some (.val (Mw w))) (lw:Lat N j a b w) :
  ∃ws o,b7 [fX n k N,.int a,.int b,.int (j:Nat)]=some (oS ws o w)/\Mx n N j a b ws o w:=by
 have hN:=h.rc;have lN:=hN.len;have fit:=hN.fit n10;have wa:∀K:List Tie,K.Sublist N->∃ws o,bg [.int n,aL K,.int a,.int b,.int (j:Nat)]=some (.t [.l (ws.map msP),.s (aH o)])/\Apart n K a b (j:Nat) ws o:=fun K hK=>by have f:=fit.sub hK;exact rC n f.n40 K f.pl f.nd f.len a b a0 a1 b0 b1 j (by omega) (by omega)
 cases w with
 |none=>
  obtain⟨ws,o,eP,A⟩:=wa N (Vr.refl N);cases o with
  |none=>exact absurd A.hg lw
  |some S=>
   obtain⟨q1,q2,q3⟩:=A.side S rfl;refine⟨ws,some S,?_,S,rfl,q1,by omega⟩
   ·unfold b7;refine Yb ?_ rfl rfl;refine Xa (Xn (WE (m_ (S_ rfl (m_ (S_ rfl (U_ (Wz (ig n1 n10 k1 k6 j1 jk h) ?_ rfl rfl))))))));refine Xa (Xn (WE (m_ (T_ (S_ rfl (V_ (Ww (v:=.int (n:Nat)) ?_ rfl rfl rfl)))))));refine m_ (S_ rfl (m_ (S_ rfl (U_ (Wz (kD n a b a0 a1 b0 b1 PM) ?_ rfl rfl)))));refine Xa (WC (WE (m_ (T_ (S_ rfl (V_ (Ww (v:=.int (n:Nat)) ?_ rfl rfl rfl)))))) (by decide));refine m_ (T_ (S_ rfl (V_ (Ww (v:=aL N) ?_ rfl rfl rfl))));refine m_ (S_ rfl (m_ (S_ rfl (m_ (S_ rfl (U_ (Wz ew ?_ rfl rfl)))))));refine Wy ?_ rfl;refine YV (d:=.tup [.str [110,101,118,101,114],aH (some S)]) (WD (T_ (S_ rfl (V_ (Xu (Wx ⟨rfl,?_⟩) rfl rfl))))) rfl;refine Xy (m_ (V_ (m_ (T_ (XM ?_)))));refine m_ (T_ (S_ rfl (V_ (Ww (v:=.int (n:Nat)) ?_ rfl rfl rfl))));refine m_ (T_ (S_ rfl (V_ (Ww (v:=aL N) ?_ rfl rfl rfl))));refine m_ (S_ rfl (m_ (S_ rfl (m_ (S_ rfl (U_ ⟨_,_,eP,rfl,rD ws _,?_⟩))))));exact V_ (Ww (v:=aH (some S)) (U_ (WZ rfl rfl rfl (Th rfl))) rfl rfl rfl)
 |some t=>
  obtain⟨l1,l2⟩:=lw;obtain⟨ws,o,eP,A⟩:=wa (dw N t) Ui;obtain⟨ws',o',eP',A'⟩:=wa (dw N (t+1)) Ui;cases o with
  |some S=>exact absurd l1 A.no
  |none=>
  cases o' with
  |none=>exact absurd A'.hg l2
  |some S=>
   obtain⟨q1,q2,q3⟩:=A'.side S rfl;have al:=A.all rfl;refine⟨ws,some S,?_,⟨S,rfl,q1,by omega⟩,by omega,A.ways,A.R8⟩
   ·unfold b7;refine Yb ?_ rfl rfl;refine Xa (Xn (WE (m_ (S_ rfl (m_ (S_ rfl (U_ (Wz (ig n1 n10 k1 k6 j1 jk h) ?_ rfl rfl))))))));refine Xa (Xn (WE (m_ (T_ (S_ rfl (V_ (Ww (v:=.int (n:Nat)) ?_ rfl rfl rfl)))))));refine m_ (S_ rfl (m_ (S_ rfl (U_ (Wz (kD n a b a0 a1 b0 b1 PM) ?_ rfl rfl)))));refine Xa (WC (WE (m_ (T_ (S_ rfl (V_ (Ww (v:=.int (n:Nat)) ?_ rfl rfl rfl)))))) (by decide));refine m_ (T_ (S_ rfl (V_ (Ww (v:=aL N) ?_ rfl rfl rfl))));refine m_ (S_ rfl (m_ (S_ rfl (m_ (S_ rfl (U_ (Wz ew ?_ rfl rfl)))))));refine Wy ?_ rfl;refine Y8 (WD (T_ (S_ rfl (V_ (Xu (Wx ⟨rfl,?_⟩) rfl rfl)))));refine YC (m_ (T_ (S_ rfl (V_ (Ww (v:=.int (n:Nat)) ?_ rfl rfl rfl))))) (by decide);refine m_ (WE (m_ (T_ (S_ rfl (V_ (Ww (v:=aL N) ?_ rfl rfl rfl))))));refine m_ (S_ rfl (U_ (WS (oO N (by omega) t) ?_ rfl rfl rfl rfl)));refine m_ (S_ rfl (m_ (S_ rfl (m_ (S_ rfl (U_ ?_))))));refine⟨_,_,_,_,[.sh (fX n k N),.sh (.int a),.sh (.int b),.sh (.int (j:Nat)),.sh (.int t),.un,.un],rfl,eP,rfl,rfl,?_⟩;have sv:see 5 [.sh (fX n k N),.sh (.int a),.sh (.int b),.sh (.int (j:Nat)),.sh (.int t),.un,.un] (.l (ws.map msP))=[.sh (fX n k N),.sh (.int a),.sh (.int b),.sh (.int (j:Nat)),.sh (.int t),.sh (.lst (ws.map msD)),.un]:=by
     rw[<- oJ];rfl
    refine YH (Y9 (q:=.s (aH (some S))) (D:=aH (some S)) (YJ (xs:=[.l (ws'.map msP),.s (aH (some S))]) (m:=1) (x:=.s (aH (some S))) (XU ?_) rfl rfl) ?_ sv (by unfold aI;exact gW _) rfl rfl (by decide))
    ·refine m_ (T_ (S_ rfl (V_ (Ww (v:=.int (n:Nat)) ?_ rfl rfl rfl))));refine m_ (WE (m_ (T_ (S_ rfl (V_ (Ww (v:=aL N) ?_ rfl rfl rfl))))));refine m_ (T_ (S_ rfl (V_ (WH (U_ (WS (oO N (by omega) (t+1)) ?_ rfl rfl rfl rfl)) rfl rfl))));exact m_ (S_ rfl (m_ (S_ rfl (m_ (S_ rfl (U_ ⟨_,_,_,eP',⟨rfl,rfl⟩,rfl⟩))))))
    have sv2:see 5 [.sh (fX n k N),.sh (.int a),.sh (.int b),.sh (.int (j:Nat)),.sh (.int t),.un,.sh (aH (some S))] (.l (ws.map msP))=[.sh (fX n k N),.sh (.int a),.sh (.int b),.sh (.int (j:Nat)),.sh (.int t),.sh (.lst (ws.map msD)),.sh (aH (some S))]:=by rw[<- oJ];rfl
    exact YL (D6 (V_ rfl) sv2 rfl (D6 (S_ rfl rfl) sv2 rfl (Mi (Mh rfl (by decide) rfl)))) (by exact Th rfl) rfl
theorem tw.few(n10:n<=10)(q1:tw n a b S):S.length<=17:=by
 have h1:S.length<=((SH n).map fun i:Nat=>(i:Int)).length:=(Ju q1.1).length_le_of_subset fun x hx=>by obtain⟨z1,z2⟩:=q1.2.1 x hx;exact SW.mpr ⟨x.toNat,Tp.mpr (by omega),by omega⟩
 rw[Ss,S9]at h1;omega
theorem EI(n10:n<=10)(f:Fit n N)(lN:N.length<=60)(ws:List (List Step))(o:Option (List Int))(w:Option Int)(A:Mx n N j a b ws o w)(j6:j<=6) :
  vf [.int (n:Nat),aL N,.int a,.int b,.int (j:Nat),cu (.lst (ws.map msD)) (aH o) w]=some (.val (.bl true)):=by
 apply WI;unfold vf
 (refine Dm.WG ?_ rfl rfl;and_intros)
 cases w with
 |none=>obtain⟨S,rfl,q1,q2⟩:=A;unfold cu;refine Wv (WL (W6 (WW (WD (W8 (S_ rfl (W0 (v:=.val (.bl true)) (Wx (WK ?_)) rfl rfl)))))));refine WD (T_ (WM (m_ (S_ rfl (U_ ⟨_,_,rfl,rfl,?_⟩)))));refine V_ (Xm (i:=2) (j:=2) (Wx (WK (WO ?_))) rfl rfl);refine Wv (WL (WD (T_ (T_ (S_ rfl (V_ (Ww (v:=.str [110,101,118,101,114]) ?_ rfl rfl rfl)))))));refine V_ ⟨_,_,_,rfl,rfl,rfl,Wx (W5 ?_)⟩;refine WN (W9 (T_ (WM (m_ (S_ rfl (U_ ⟨_,_,rfl,rfl,?_⟩))))));refine V_ (W7 (i:=2) (j:=2) (Wx (W5 ?_)) rfl rfl);refine W9 (WE (m_ (S_ rfl (m_ (T_ (S_ rfl (V_ (Ww (v:=aH (some S)) ?_ rfl rfl rfl))))))));refine m_ (S_ rfl (m_ (S_ rfl (U_ (Wz (oR n10 q1 (q1.few n10)) (Wx (W5 ?_)) rfl rfl)))));refine T_ (WM (m_ (WE ?_)));refine m_ (S_ rfl (m_ (T_ (S_ rfl (V_ (Ww (v:=aH (some S)) (U_ (WS (EF N (by omega) S) ?_ rfl rfl rfl rfl)) rfl rfl rfl))))));refine U_ (Xe (DV:=Dat.int) (xs:=kr N S) ?_ rfl);refine S_ rfl (Xm ?_ rfl rfl);rw[decide_eq_true (by omega)];rfl
 |some t=>obtain⟨⟨S,rfl,q1,q2⟩,wl,W,fl⟩:=A;have s0:(dw N t).length<=N.length:=UU _ _;have s1:(dw N (t+1)).length<=N.length:=UU _ _;have ft:=f.sub (K:=dw N t) Ui;unfold cu;refine Wv (WL (W6 (WW (WD (W8 (S_ rfl (W0 (v:=.val (.bl true)) (Wx (WK ?_)) rfl rfl)))))));refine WD (T_ (WM (m_ (S_ rfl (U_ ⟨_,_,rfl,rfl,?_⟩)))));refine V_ (Xm (i:=4) (j:=2) (Wx (WK (WO ?_))) rfl rfl);refine Wv (WL (WD (T_ (T_ (S_ rfl (V_ (Ww (v:=.str [115,105,110,99,101]) ?_ rfl rfl rfl)))))));refine V_ ⟨_,_,_,rfl,rfl,rfl,Wx (WK (WO ?_))⟩;refine Wv (WL (W6 (WD (T_ (T_ (S_ rfl (V_ (Ww (v:=.str [115,105,110,99,101]) ?_ rfl rfl rfl))))))));refine V_ ⟨_,_,_,rfl,rfl,rfl,Wx (WK ?_)⟩;refine W6 (WD (T_ (WM (m_ (S_ rfl (U_ ⟨_,_,rfl,rfl,?_⟩))))));refine V_ (Xh (i:=4) (j:=4) (Wx (WK ?_)) rfl rfl);refine WW (WD (WE (m_ (T_ (S_ rfl (V_ (Ww (v:=.int t) ?_ rfl rfl rfl)))))));refine U_ (Wz (fH t) (Wx (WK (WO ?_))) rfl rfl);refine Wv (WC (T_ (S_ rfl (V_ (Ww (v:=.int t) (Wy ?_ (by trivial)) rfl rfl rfl)))) (by decide));refine Wv (WL (W6 (WW (WD (WE ?_)))));refine m_ (WE ?_);refine m_ (S_ rfl (m_ (S_ rfl (U_ (WS (kE N (by omega) t) ?_ rfl rfl rfl rfl)))));refine m_ (S_ rfl (m_ (S_ rfl (m_ (T_ (S_ rfl (V_ (Ww (v:=.lst (ws.map msD)) ?_ rfl rfl rfl))))))));refine U_ (Wz (vF n10 (dw N t) ft.pl ft.nd (by omega) a b ws W (by omega) (by omega)) (Wx (WK ?_)) rfl rfl);refine WD (T_ (WM (m_ (T_ (S_ rfl (V_ (Ww (v:=.lst (ws.map msD)) ?_ rfl rfl rfl)))))));refine U_ (Xe (DV:=msD) (xs:=ws) ?_ rfl);refine S_ rfl (Xh ?_ rfl rfl);rw[decide_eq_true (by rw[wl])];refine Wx (WK (WO ?_));refine WN (W9 (WE (m_ (S_ rfl (m_ (T_ (S_ rfl (V_ (Ww (v:=aH (some S)) ?_ rfl rfl rfl)))))))));refine m_ (S_ rfl (m_ (S_ rfl (U_ (Wz (oR n10 q1 (q1.few n10)) (Wx (W5 ?_)) rfl rfl)))));refine T_ (WM (m_ (WE ?_)));refine m_ (WE ?_);refine m_ (S_ rfl (m_ (T_ (S_ rfl (V_ (WH ?_ rfl rfl))))));refine U_ (WS (kE N (by omega) (t+1)) ?_ rfl rfl rfl rfl);refine m_ (T_ (S_ rfl (V_ (Ww (v:=aH (some S)) ?_ rfl rfl rfl))));refine U_ (WS (EF (dw N (t+1)) (by omega) S) ?_ rfl rfl rfl rfl);refine U_ (Xe (DV:=Dat.int) (xs:=kr (dw N (t+1)) S) ?_ rfl);refine S_ rfl (Xm ?_ rfl rfl);rw[decide_eq_true (by omega)];rfl
theorem My(n k:Nat)(r:List Tie):eqD (fX n k r) (fX n k r)=true:=by unfold fX;simp only[eqD,jS,beq_self_eq_true,Bool.true_and,Bool.and_true];exact Mt r
theorem Ii(r:List Tie):okD 7 (aL r)=true:=by unfold aL okD;rw[TM];intro x hx;obtain⟨t,_,rfl⟩:=SW.mp hx;rfl
theorem Mz(n k:Nat)(r:List Tie):okD 8 (fX n k r)=true:=by unfold fX okD;simp only[VJ,List.all_nil,Bool.and_true,Ii];rfl
theorem iQ(m:Nat):∀l:List Int,(∀i∈l,i.natAbs<10 ^ 100)->bY m (l.map Dat.int)=true
 |[],_=>by unfold bY;rfl
 |i::l,h=>by
  rw[Sq];unfold bY;rw[iQ m l fun x hx=>h x (Sy _ hx)];have:dU m (.int i)=true:=by have:=h i Sw;cases m<;>exact decide_eq_true this
  rw[this];rfl
theorem iR:∀l:List Int,fR (l.map Dat.int)=l.length
 |[]=>by unfold fR;rfl
 |i::l=>by rw[Sq];unfold fR iH;rw[iR l,S1];omega
theorem z6:∀ws:List (List Step),(∀m∈(ws.map mso).flatten,m.natAbs<10 ^ 100)->bY 6 (ws.map msD)=true
 |[],_=>by unfold bY;rfl
 |w::ws,h=>by
  rw[Sq];unfold bY;rw[z6 ws fun m hm=>h m (by rw[Sq,TF];exact S5 _ hm)];have:dU 6 (msD w)=true:=by unfold msD dU;exact iQ 5 (mso w) fun m hm=>h m (by rw[Sq,TF];exact Tf _ hm)
  rw[this];rfl
theorem z7:∀ws:List (List Step),fR (ws.map msD)=ws.length+(ws.map mso).flatten.length
 |[]=>by unfold fR;rfl
 |w::ws=>by rw[Sq];unfold fR;rw[z7 ws];unfold msD iH;rw[iR,Sq,TF,SJ,S1];omega
theorem z8(n10:n<=10)(q:tw n a b S):dU 7 (aH (some S))=true/\iH (aH (some S))<=20:=by
 have sl:=q.few n10;refine⟨?_,?_⟩
 ·unfold aH tupI dU;exact iQ 6 S fun i hi=>by
   obtain⟨h1,h2⟩:=q.2.1 i hi;have:i.natAbs<11:=by omega
   exact Vo this (by decide)
 ·unfold aH tupI iH;rw[iR];omega
theorem Ij(n10:n<=10)(hN:Rcd n N)(j6:j<=6){o:Option (List Int)}{w:Option Int}(A:Mx n N j a b ws o w)(hw:∀t,w=some t->∃u∈N,u.m=t) :
  dU 8 (cu (.lst (ws.map msD)) (aH o) w)=true/\iH (cu (.lst (ws.map msD)) (aH o) w)<=900:=by
 have lN:=hN.len;cases w with
 |none=>
  obtain⟨S,rfl,q1,q2⟩:=A;obtain⟨s1,s2⟩:=z8 n10 q1;unfold cu;refine⟨?_,?_⟩
  ·show (true&&(dU 7 (aH (some S))&&true))=true;rw[s1];rfl
  ·show 1+(1+(iH (aH (some S))+0))<=900;omega
 |some t=>
  obtain⟨⟨S,rfl,q1,q2⟩,wl,W,fl⟩:=A;obtain⟨s1,s2⟩:=z8 n10 q1;have s0:(dw N t).length<=N.length:=UU _ _;have small:∀u∈N,u.m.natAbs<10 ^ 100:=fun u hu=>by
   obtain⟨z1,z2,_⟩:=hN.ok u hu;have:u.m.natAbs<=10 ^ 30:=by unfold Z30 at z2;omega
   exact VD this (by decide)
  have hr:bY 6 (ws.map msD)=true:=z6 ws fun m hm=>by obtain⟨l,hl,hm⟩:=List.mem_flatten.mp hm;obtain⟨v,hv,rfl⟩:=SW.mp hl;obtain⟨s,hs,rfl⟩:=SW.mp hm;obtain⟨u,hu,e⟩:=SW.mp (s_ (fun p s z=>z) (W.way v hv).way s hs);rw[<- e];exact small u (Ub.mp hu).1
  have ht:dU 7 (.int t)=true:=by obtain⟨u,hu,rfl⟩:=hw t rfl;exact decide_eq_true (small u hu)
  unfold cu;refine⟨?_,?_⟩
  ·show (true&&(dU 7 (.int t)&&(bY 6 (ws.map msD)&&(dU 7 (aH (some S))&&true))))=true;rw[s1,hr,ht];rfl
  ·show 1+(1+(1+((1+fR (ws.map msD))+(iH (aH (some S))+0))))<=900;rw[z7];omega
theorem vG(ws:List (List Step))(o:Option (List Int))(w:Option Int):(oS ws o w).dat=cu (.lst (ws.map msD)) (aH o) w:=by
 cases w with
 |none=>rfl
 |some t=>show Dat.tup [.str [115,105,110,99,101],.int t,Dp.dat (.l (ws.map msP)),aH o]=_;rw[oJ];rfl
theorem rK(ws:List (List Step))(o:Option (List Int))(w:Option Int):aI (oS ws o w)=true:=by
 have h0:∀s:List Nat,iF (.str s)=true:=fun s=>by unfold iF;rfl
 cases w with
 |none=>unfold oS aI iF;unfold h_ h_ h_;rw[h0,gW];rfl
 |some t=>
  have h1:aI (.l (ws.map msP))=true:=by unfold aI;exact lz ws
  have h2:aI (.s (aH o))=true:=by unfold aI;exact gW o
  have h3:aI (.s (.int t))=true:=by unfold aI;exact oj _
  have h4:aI (.s (.str [115,105,110,99,101]))=true:=by unfold aI;exact h0 _
  unfold oS aI;unfold aQ aQ aQ aQ aQ;rw[h1,h2,h3,h4];rfl
theorem Lat.uniq{w v:Option Int}(h:Lat N j a b w)(h':Lat N j b a v):w=v:=by
 have k:∀t,(∃x,w=some x/\t<=x)↔∃x,v=some x/\t<=x:=fun t=>(h.iff t).symm.trans (Iff.trans ⟨Hg.symm,Hg.symm⟩ (h'.iff t));cases w with
 |none=>
  cases v with
  |none=>rfl
  |some y=>obtain⟨x,e,_⟩:=(k y).mpr ⟨y,rfl,U0 _⟩;cases e
 |some x=>
  obtain⟨y,rfl,q1⟩:=(k x).mp ⟨x,rfl,U0 _⟩;obtain⟨z,e,q2⟩:=(k y).mpr ⟨y,rfl,U0 _⟩;cases e;have:x=y:=by omega
  rw[this]
noncomputable def LE(ns:List Int)(at_ x:Int)(n k:Nat)(c5:Cell)(j:Nat)(K:List Tie)(a b:Int)(c11 c12 c13:Cell):Env:=
 [.sh (.lst (ns.map Dat.int)),.sh (.int at_),.ow (aR x),.sh (.int n),.sh (.int k),c5,.sh (.int (j:Nat)),.sh (fX n k K),.ow (aL K),.sh (.int a),.sh (.int b),c11,c12,c13]
noncomputable def SE(ns:List Int)(at_ x:Int)(n k:Nat)(c5:Cell)(j:Nat)(K:List Tie)(a b:Int)(D:Dat)(c12 c13:Cell):Env:=
 [.sh (.lst (ns.map Dat.int)),.sh (.int at_),.sh (aR x),.sh (.int n),.sh (.int k),shC c5,.sh (.int (j:Nat)),.sh (fX n k K),.sh (aL K),.sh (.int a),.sh (.int b),.sh D,shC c12,shC c13]
theorem lB(ns:List Int)(at_ x:Int)(n k:Nat)(c5:Cell)(j:Nat)(K:List Tie)(a b:Int)(p:Dp)(D:Dat)(c12 c13:Cell)(h:p.dat=D) :
  see 11 (LE ns at_ x n k c5 j K a b .un c12 c13) p=SE ns at_ x n k c5 j K a b D c12 c13:=by
 rw[<- h];rfl
theorem Ik(ns:List Int)(at_ x:Int)(n k j:Nat)(n1:1<=n)(n10:n<=10)(k1:1<=k)(k6:k<=6)(j1:1<=j)(jk:j<=k)(K:List Tie)(net:Net n k K)(a b:Int)(a0:0<=a)(a1:a<n)(b0:0<=b)(b1:b<n)(PM:a≠b)(c5 c11 c12 c13:Cell)
  {N:Env->Prop} {R:RV->Env->Prop} {B C:Env->Prop} (nx:∀c12 c13,N (LE ns at_ x n k c5 j K a b .un c12 c13)) :
  Ws (iG 11 b7 [(eV 7),(eV 9),(eV 10),(eV 6)]
  (mIf 11 (b8 (tV (eF vf [(eV 3),(eV 8),(eV 9),(eV 10),(eV 6),(eV 11)]))) (sR (eC (.bl false)))
  (qu (cA 11 12 (eB n6 [(eV 11)]))
  (qu (cIf 11 (tV (e2 gEq (e2 gIx (eV 11) (eC (.int 0))) (eC (.str [115,105,110,99,101])))) (uI (n_ 11 2 13)
  (x8 2)) cNx)
  (mIf 11 (tOr (tV (e2 gNe (eB n6 [(eFT b7 [(eV 7),(eV 9),(eV 10),(eV 6)])]) (eV 12))) (tV (e2 gNe (eV 7) (iw [(eV 3),(eV 4),(eV 8)])))) (sR (eC (.bl false)))
  (mIf 11 (tV (e2 gNe (kh (kh (eFT b7 [(eV 7),(eV 10),(eV 9),(eV 6)]) none (some (eC (.int 2)))) none (some (e2 bw (eC (.int 1)) (eB mz [(e2 gEq (e2 gIx (eV 11) (eC (.int 0))) (eC (.str [115,105,110,99,101])))])))) (kh (eV 11) none (some (e2 bw (eC (.int 1)) (eB mz [(e2 gEq (e2 gIx (eV 11) (eC (.int 0))) (eC (.str [115,105,110,99,101])))])))))) (sR (eC (.bl false)))
  (A_ sNx))))))) (LE ns at_ x n k c5 j K a b c11 c12 c13) N R B C:=by
 have hK:=net.rc;have lK:=hK.len;have fit:=hK.fit n10;obtain⟨w,ew,lw,mw⟩:=rF n10 hK a0 a1 b0 b1 PM j1 (by omega:j<=6);obtain⟨v,elv,lv,_⟩:=rF n10 hK b0 b1 a0 a1 (Ne.symm PM) j1 (by omega:j<=6);obtain rfl:=lw.uniq lv;obtain⟨ws,o,eP,A⟩:=rJ n1 n10 k1 k6 j1 jk net a0 a1 b0 b1 PM ew lw;obtain⟨ws',o',ewi,_⟩:=rJ n1 n10 k1 k6 j1 jk net b0 b1 a0 a1 (Ne.symm PM) elv lv;have er:=EI n10 fit lK ws o w A (by omega);obtain⟨sh1,sh2⟩:=Ij n10 hK (by omega:j<=6) A mw;have dat:=vG ws o w;have leaf:=rK ws o w;have dat':=vG ws' o' w;unfold LE;refine Y6 (m_ (S_ rfl (m_ (S_ rfl (m_ (S_ rfl (m_ (S_ rfl (U_ ⟨_,oS ws o w,LE ns at_ x n k c5 j K a b .un c12 c13,eP,?_,rfl,leaf,rfl⟩))))))))) (by decide);refine X6 ?_ ?_ (lB ns at_ x n k c5 j K a b _ _ c12 c13 dat)
 ·unfold SE;refine WW (WD (WE ?_));exact m_ (S_ rfl (m_ (S_ rfl (m_ (S_ rfl (m_ (S_ rfl (m_ (S_ rfl (m_ (S_ rfl (U_ (Wz er (Wx rfl) rfl rfl)))))))))))))
 have kept:∃S:List Nat,S=shw (cu (.lst (ws.map msD)) (aH o) w):=⟨_,rfl⟩
 have PY:∀{ρ:Env} {xo:Option (List Dat)} {Q:RV->Prop},xo=some [cu (.lst (ws.map msD)) (aH o) w]->Q (.val (.str (shw (cu (.lst (ws.map msD)) (aH o) w))))->WB n6 xo Q:=fun {ρ xo Q} hx q=>by
  cases w with
  |none=>exact Yp sh1 sh2 q hx
  |some t=>exact Yp sh1 sh2 q hx
 refine XR (Ze (d:=.str (shw (cu (.lst (ws.map msD)) (aH o) w))) (WM (m_ (S_ rfl (U_ (PY (ρ:=[]) rfl rfl))))) ?_ (lB ns at_ x n k c5 j K a b _ _ c12 c13 dat) rfl rfl (by decide));have tail:∀(p:Dp) (D:Dat) (c13:Cell) (i:Int) (xs ys:List Dat),p.dat=D->D=.tup xs->cu (.lst (ws'.map msD)) (aH o') w=.tup ys ->
   (e2 bw (eC (.int 1)) (eB mz [(e2 gEq (e2 gIx (eV 11) (eC (.int 0))) (eC (.str [115,105,110,99,101])))])) (SE ns at_ x n k c5 j K a b D (.sh (.str (shw (cu (.lst (ws.map msD)) (aH o) w)))) c13)=some (.val (.int i),SE ns at_ x n k c5 j K a b D (.sh (.str (shw (cu (.lst (ws.map msD)) (aH o) w)))) c13) ->
   gNe (.tup (cut (cut ys none (some 2)) none (some i))) (.tup (cut xs none (some i)))=some (.val (.bl false)) ->
   Wm (mIf 11 (tOr (tV (e2 gNe (eB n6 [(eFT b7 [(eV 7),(eV 9),(eV 10),(eV 6)])]) (eV 12))) (tV (e2 gNe (eV 7) (iw [(eV 3),(eV 4),(eV 8)])))) (sR (eC (.bl false)))
   (mIf 11 (tV (e2 gNe (kh (kh (eFT b7 [(eV 7),(eV 10),(eV 9),(eV 6)]) none (some (eC (.int 2)))) none (some (e2 bw (eC (.int 1)) (eB mz [(e2 gEq (e2 gIx (eV 11) (eC (.int 0))) (eC (.str [115,105,110,99,101])))])))) (kh (eV 11) none (some (e2 bw (eC (.int 1)) (eB mz [(e2 gEq (e2 gIx (eV 11) (eC (.int 0))) (eC (.str [115,105,110,99,101])))])))))) (sR (eC (.bl false)))
   (A_ sNx))) (LE ns at_ x n k c5 j K a b .un (.sh (.str (shw (cu (.lst (ws.map msD)) (aH o) w)))) c13) p N R B C:=fun p D c13 i xs ys hd hx hy ek PR=>by
  refine X6 ?_ (X6 ?_ (YM (WO (nx _ _))) (lB ns at_ x n k c5 j K a b p D _ c13 hd)) (lB ns at_ x n k c5 j K a b p D _ c13 hd)
  ·unfold SE;refine W6 (WD (T_ (WM (m_ (XM ?_)))));refine m_ (S_ rfl (m_ (S_ rfl (m_ (S_ rfl (m_ (S_ rfl (U_ ⟨_,_,eP,rfl,leaf,?_⟩))))))));rw[dat];refine U_ (PY (ρ:=[]) rfl ?_);refine S_ rfl (YR sh1 (Wx (WK ?_)) rfl rfl);refine WD (T_ (S_ rfl (Xy ?_)));refine m_ (S_ rfl (m_ (S_ rfl (m_ (S_ rfl (U_ (WZ ?_ rfl rfl (Th rfl))))))));exact YQ (Mz n k K) (My n k K) (Wx rfl) rfl rfl
  ·refine WD (T_ (XN (XN (XM ?_))));refine m_ (S_ rfl (m_ (S_ rfl (m_ (S_ rfl (m_ (S_ rfl (U_ ⟨_,_,ewi,rfl,rK ws' o' w,?_⟩))))))));rw[dat'];refine V_ ⟨ys,2,rfl,by rw[hy];rfl,?_⟩;refine⟨_,_,ek,_,_,rfl,rfl,?_⟩;refine XN (S_ rfl ⟨_,_,ek,xs,i,rfl,by rw[hx];rfl,?_⟩);exact⟨_,_,_,rfl,rfl,PR,Wx rfl⟩
 cases w with
 |none=>refine XR (Yt (ρ':=SE ns at_ x n k c5 j K a b (cu (.lst (ws.map msD)) (aH o) none) (.sh (.str (shw (cu (.lst (ws.map msD)) (aH o) none)))) c13) (WD (T_ (T_ (S_ rfl (V_ (Ww (v:=.str [110,101,118,101,114]) (V_ ⟨_,_,_,rfl,rfl,rfl,Wx ?_⟩) rfl rfl rfl)))))) (lB ns at_ x n k c5 j K a b _ _ _ c13 dat));refine WK (YU ?_);exact tail _ _ c13 1 _ _ dat rfl rfl rfl rfl
 |some t=>
  refine XR (Yt (ρ':=SE ns at_ x n k c5 j K a b (cu (.lst (ws.map msD)) (aH o) (some t)) (.sh (.str (shw (cu (.lst (ws.map msD)) (aH o) (some t))))) c13) (WD (T_ (T_ (S_ rfl (V_ (Ww (v:=.str [115,105,110,99,101]) (V_ ⟨_,_,_,rfl,rfl,rfl,Wx ?_⟩) rfl rfl rfl)))))) (lB ns at_ x n k c5 j K a b _ _ _ c13 dat));refine W5 ?_;unfold oS;refine YF (Y_ (rs:=ws.map fun w=>(mso w).map Dat.int) ?_ ?_ (by decide) rfl)
  rotate_left
  ·show some (Dp.l (ws.map msP))=_;rw[TN];rfl
  refine YG (rows:=(ws.map fun w=>(mso w).map Dat.int).map fun _=>.l []) ?_ rfl;refine tail (.t [.s (.str [115,105,110,99,101]),.s (.int t),.l [],.s (aH o)]) (.tup [.str [115,105,110,99,101],.int t,.lst [],aH o]) .un 2 _ _ rfl rfl rfl rfl ?_;show gNe (.tup [.str [115,105,110,99,101],.int t]) (.tup [.str [115,105,110,99,101],.int t])=_;unfold gNe;simp[okD,eqD,jS]
theorem BJ(n a t:Int)(hn:2<=n)(a0:0<=a)(a1:a<n)(t0:0<=t)(t1:t<n-1):0<=(a+1+t) % n/\(a+1+t) % n<n/\(a+1+t) % n≠a:=by
 have h:=cS (a+1+t) n (by omega);refine⟨h.1,h.2,?_⟩;by_cases q:a+1+t<n
 ·rw[Int.emod_eq_of_lt (by omega) q];omega
 ·have e:(a+1+t) % n=(a+1+t-n) % n:=by rw[Int.sub_emod_right]
  rw[e,Int.emod_eq_of_lt (by omega) (by omega)];omega
theorem Il(S:List Int)(at_:Int)(h0:0<=at_)(h1:at_<900)(c2 c3 c4 c5 c6 c7 c8 c9 c10 c11 c12 c13:Cell){N:Env->Prop}{R:RV->Env->Prop}{B C:Env->Prop}(nx:∀c1 c2 c3 c4 c5 c6 c7 c8 c9 c10 c11 c12 c13,N [.sh (.lst (S.map Dat.int)),c1,c2,c3,c4,c5,c6,c7,c8,c9,c10,c11,c12,c13]) :
  Ws yd [.sh (.lst (S.map Dat.int)),.sh (.int at_),c2,c3,c4,c5,c6,c7,c8,c9,c10,c11,c12,c13] N R B C:=by
 obtain⟨x,ep⟩:=tE S at_ h0 (by omega);obtain⟨n0,x1,en,n1,n10⟩:=H_ x;obtain⟨n,hn⟩:∃n:Nat,(if n0>2 then n0 else 2)=(n:Int):=⟨(if n0>2 then n0 else 2).toNat,by split<;>omega⟩
 have hn2:2<=n/\n<=10:=by split at hn<;>omega
 unfold yd;refine Wv (WC (WE ?_) (by decide));refine m_ (S_ rfl (m_ (S_ rfl (U_ (WS ep (WQ ?_ (by trivial)) rfl rfl rfl (by trivial))))));refine Wv (WC (WM (m_ (V_ (m_ (X5 (U_ (XH en ?_ rfl rfl rfl)) rfl))))) (by decide));refine U_ (Xj ?_ rfl);rw[hn];refine Wy ?_ (by trivial);refine WX (fun ρ=>∃(k:Nat) (x2:Int),(1<=k/\k<=6)/\ρ=[.sh (.lst (S.map Dat.int)),.sh (.int at_),.ow (aR x2),.sh (.int (n:Nat)),.sh (.int (k:Nat)),c5,c6,c7,c8,c9,c10,c11,c12,c13]) ?_ ?_
 ·refine WC (T_ (V_ ?_)) (by decide);refine WV (m:=6) rfl (by decide) (by decide) rfl fun t x2 t0 t1 ρ3 e=>?_;subst e;refine WH (Wy ⟨(1+t).toNat,x2,by omega,?_⟩ rfl) rfl rfl;rw[Int.toNat_of_nonneg (by omega)];rfl
 rintro ρ ⟨k,x2,⟨k1,k6⟩,rfl⟩;obtain⟨y,ey⟩:=tE S (at_+1) (by omega) (by omega);refine WX (fun ρ=>∃r:List Tie,Rcd n r/\ρ=[.sh (.lst (S.map Dat.int)),.sh (.int at_),.ow (aR x2),.sh (.int (n:Nat)),.sh (.int (k:Nat)),.ow (aL r),c6,c7,c8,c9,c10,c11,c12,c13]) ?_ ?_
 ·refine WC (Yu (m_ (WE ?_))) (by decide);refine m_ (S_ rfl (m_ (T_ (S_ rfl (V_ (WH ?_ rfl rfl))))));refine U_ (WS ey ?_ rfl rfl rfl (by trivial));obtain⟨r,y',er,gr,lr,mr⟩:=BA y n 16 (by omega) (by omega) (by decide) (by decide);refine m_ (S_ rfl (m_ (V_ (U_ ⟨_,_,_,_,_,rfl,rfl,er,?_⟩))));exact WQ ⟨r,Rcd.of gr (by omega) mr,rfl⟩ (by trivial)
 rintro ρ ⟨r,hr,rfl⟩;refine WX (fun ρ=>∃(n k:Nat) (r:List Tie) (x:Int),(2<=n/\n<=10/\1<=k/\k<=6)/\Rcd n r/\ρ=[.sh (.lst (S.map Dat.int)),.sh (.int at_),.ow (aR x),.sh (.int (n:Nat)),.sh (.int (k:Nat)),.ow (aL r),c6,c7,c8,c9,c10,c11,c12,c13]) ?_ ?_
 ·refine WL (WD (T_ ?_));refine WV (m:=8) rfl (by decide) (by decide) rfl fun t x3 t0 t1 ρ3 e=>?_;subst e;refine V_ (W7 (Wx ⟨fun _=>?_,fun _=>WO ⟨n,k,r,x3,⟨by omega,by omega,k1,k6⟩,hr,rfl⟩⟩) rfl rfl);refine Wv (WC (V_ (Wy ?_ (by trivial))) (by decide));refine Wv (WC (V_ (Wy ?_ (by trivial))) (by decide));refine WC (Yu (m_ (WE ?_))) (by decide);refine m_ (S_ rfl (m_ (T_ (S_ rfl (V_ (WH ?_ rfl rfl))))));refine U_ (WS ey ?_ rfl rfl rfl (by trivial));refine m_ (V_ (m_ (T_ (V_ ?_))));refine WV (m:=21) rfl (by decide) (by decide) rfl fun v x4 v0 v1 ρ3 e=>?_;subst e;obtain⟨r',y',er,gr,lr,mr⟩:=EH y (40+v) (by omega) (by omega);refine WH (U_ ⟨_,_,_,_,_,rfl,rfl,er,?_⟩) rfl rfl;exact WQ ⟨10,6,r',x4,⟨by decide,by decide,by decide,by decide⟩,Rcd.of gr lr mr,rfl⟩ (by trivial)
 rintro ρ ⟨n,k,r,x3,⟨n2,n10,k1,k6⟩,hr,rfl⟩;have lr:=hr.len;refine WX (fun ρ=>∃(j:Nat) (x:Int),(1<=j/\j<=k)/\ρ=[.sh (.lst (S.map Dat.int)),.sh (.int at_),.ow (aR x),.sh (.int (n:Nat)),.sh (.int (k:Nat)),.ow (aL r),.sh (.int (j:Nat)),c7,c8,c9,c10,c11,c12,c13]) ?_ ?_
 ·refine WC (T_ (V_ ?_)) (by decide);refine WV (m:=(k:Nat)) rfl (by omega) (by unfold gY;omega) rfl fun t x2 t0 t1 ρ3 e=>?_;subst e;refine WH (Wy ⟨(1+t).toNat,x2,by omega,?_⟩ rfl) rfl rfl;rw[Int.toNat_of_nonneg (by omega)];rfl
 rintro ρ ⟨j,x4,⟨j1,jk⟩,rfl⟩;obtain⟨ms,_,al⟩:=iP n k n10 k1 k6 r hr.ends (by omega);have PZ:=Mv n k n10 k1 k6 r ms hr.ends (by omega) al;have net:Net n k (keep r ms):=⟨hr.sub (oN r ms),_,vz al,fun z=>by simpa using(Ub.mp z).2⟩
 generalize keep r ms=K at PZ net
 refine Wv (WC (WE ?_) (by decide));refine m_ (S_ rfl (m_ (WU rfl (m_ (S_ rfl (U_ (WS PZ (Wy ?_ (by trivial)) rfl rfl rfl (by trivial))))))));refine Wv (WC (WM (m_ (T_ (S_ rfl (V_ (Ww (v:=aL K) (U_ (XY (xs:=K.map bZ) (WQ ?_ (by trivial)) rfl)) rfl rfl rfl)))))) (by decide));obtain⟨y2,ey2⟩:=tE S (at_+2) (by omega) (by omega);refine Wv (WC (WE ?_) (by decide));refine m_ (S_ rfl (m_ (T_ (S_ rfl (V_ (WH (U_ (WS ey2 (WQ ?_ (by trivial)) rfl rfl rfl (by trivial))) rfl rfl))))));refine Wv (WC ?_ (by decide));refine WV (m:=n) rfl (by omega) (by unfold gY;omega) rfl fun a x5 a0 a1 ρ3 e=>?_;subst e;refine Wy ?_ (by trivial);refine Wv (WC (T_ (T_ (T_ (S_ rfl (V_ (WH ?_ rfl rfl)))))) (by decide));refine WV (m:=(n:Int)-1) rfl (by omega) (by unfold gY;omega) rfl fun t x6 t0 t1 ρ3 e=>?_;subst e;refine WH ?_ rfl rfl;refine S_ rfl (W4 ?_ rfl rfl (by omega));obtain⟨b0,b1,PM⟩:=BJ n a t (by omega) a0 a1 t0 t1
 generalize (a+1+t) % (n:Int)=b at b0 b1 PM
 refine Wy ?_ (by trivial);exact Ik S at_ _ n k j (by omega) n10 k1 k6 j1 jk K net a b a0 a1 b0 b1 (Ne.symm PM) _ _ _ _ fun c12 c13=>nx _ _ _ _ _ _ _ _ _ _ _ _ _
theorem math(ns:List Int)(h:ns.length<=63):oB [.lst (ns.map Dat.int)]=some (.val (.bl true)):=by
 apply WI;unfold oB
 (refine Dm.WG ?_ rfl rfl;and_intros)
 obtain⟨top,et,t0,t1⟩:∃top:Int,top=(if (if (9:Int)<((ns.length:Nat):Int) then 9 else ((ns.length:Nat):Int))>1 then (if (9:Int)<((ns.length:Nat):Int) then 9 else ((ns.length:Nat):Int)) else 1)/\1<=top/\top<=12:=⟨_,rfl,by split<;>omega,by split<;>split<;>omega⟩
 refine Wv (W2 (Y0 (i:=0) (j:=top) (k:=3) rfl ?_ rfl ⟨by decide,by unfold BIG;omega,by unfold BIG;omega,by decide,by decide⟩ ?_))
 ·rw[et];exact Yz (WM (m_ (V_ (m_ (WM (m_ (WM (m_ (S_ rfl (U_ (Xe (DV:=Dat.int) (xs:=ns) (m_ (V_ (U_ (Xi (U_ (Xj ⟨rfl,rfl⟩ rfl)) rfl)))) rfl)))))))))))
 unfold iC;refine W3 (fun i:Nat=>Dat.int (0+(i:Nat)*3)) _ _ (SH (cL 0 top 3)) _ _ _ _ _ (fun p q ρ=>∃c1 c2 c3 c4 c5 c6 c7 c8 c9 c10 c11 c12 c13:Cell,ρ=[.sh (.lst (ns.map Dat.int)),c1,c2,c3,c4,c5,c6,c7,c8,c9,c10,c11,c12,c13]) ⟨_,_,_,_,_,_,_,_,_,_,_,_,_,rfl⟩ ?_ ?_
 ·rintro p i q ρ e ⟨c1,c2,c3,c4,c5,c6,c7,c8,c9,c10,c11,c12,c13,rfl⟩;have hi:i<cL 0 top 3:=(vt e).2;unfold cL at hi;rw[if_pos (by omega)]at hi;refine Dm.cD rfl (by trivial) ?_;exact Il ns _ (by omega) (by omega) _ _ _ _ _ _ _ _ _ _ _ _ fun c1 c2 c3 c4 c5 c6 c7 c8 c9 c10 c11 c12 c13=>⟨_,_,_,_,_,_,_,_,_,_,_,_,_,rfl⟩
 ·rintro ρ ⟨c1,c2,c3,c4,c5,c6,c7,c8,c9,c10,c11,c12,c13,rfl⟩;exact WN (V_ rfl)
end
end P
set_option maxHeartbeats 4000000
namespace Q
open PySem L2 Br Dm P
noncomputable def top(i:Nat):Stmt:=PySem.Challenge.pw_sinceply_k35_when_told.main.body.getD i (.Pass ⟨0,0,0,0⟩)
structure Txt(mg:Str->Option Value)(K:gc)(base:Heap)(yl ym yo yp yq yr yt yu yw yz oU oV oW oX oY oZ o6 o7 o8 o9 o_ pq pA pB pC pD pF pG pH pI pJ pK pL pM pN pP pQ pR pS pU pV pW pX pY pZ:Addr)(p5 p6 p7 p8 p9 p_ qc qd qe qf iU iV iW iX iY iZ i0 i6 i7 i8 i9 i_ jb jd je jf jh ji jj jl jm jn jo jq jr jt ju jv jx jy jz jA jB jC lC:FuncData):Prop where
 z_:mg "all" = none
 EJ:mg "bool" = none
 MA:mg "dict" = none
 vH:mg "enumerate" = none
 vJ:mg "int" = none
 aS:mg "isinstance" = none
 cX:mg "len" = none
 jD:mg "list" = none
 Aa:mg "max" = none
 Ab:mg "min" = none
 dB:mg "range" = none
 qg:mg "reversed" = none
 EK:mg "set" = none
 vK:mg "sorted" = none
 Jv:mg "str" = none
 P0:mg "sum" = none
 kF:mg "tuple" = none
 P1:mg "zip" = none
 qh:∃t,mg "MOST_TIES" = some (.int 60 t)
 R9:mg "steps_of" = some (.ref yl)
 R_:mg "free_steps" = some (.ref ym)
 Sa:mg "led_steps" = some (.ref yo)
 P4:mg "shortest_ways" = some (.ref yp)
 Sb:mg "lead_along" = some (.ref yq)
 Sd:mg "parted" = some (.ref yr)
 Im:mg "ways_apart" = some (.ref yt)
 P5:mg "hang_often" = some (.ref yu)
 Se:mg "is_whole" = some (.ref yw)
 EL:mg "is_within" = some (.ref yz)
 P6:mg "is_places" = some (.ref oU)
 Ac:mg "is_place" = some (.ref oV)
 Jw:mg "is_layers" = some (.ref oW)
 P7:mg "is_moment" = some (.ref oX)
 P8:mg "is_tie_either_way" = some (.ref oY)
 P9:mg "is_tie" = some (.ref oZ)
 P_:mg "is_rising" = some (.ref o6)
 Qa:mg "is_pair" = some (.ref o7)
 Qc:mg "look_at_layers" = some (.ref o8)
 Qd:mg "look_at_pair" = some (.ref o9)
 Qe:mg "merged" = some (.ref o_)
 Qf:mg "least_layer" = some (.ref pq)
 Jx:mg "layered" = some (.ref pA)
 Qg:mg "is_record" = some (.ref pB)
 Jy:mg "since" = some (.ref pC)
 Qh:mg "is_net" = some (.ref pD)
 Qi:mg "look_at_net" = some (.ref pF)
 Qj:mg "look_at_net_layers" = some (.ref pG)
 Qk:mg "net_of" = some (.ref pH)
 Ql:mg "latest" = some (.ref pI)
 EM:mg "when" = some (.ref pJ)
 Ad:mg "_law_pool" = some (.ref pK)
 cI:mg "_law_take" = some (.ref pL)
 Qm:mg "_law_many" = some (.ref pM)
 Qn:mg "_law_record" = some (.ref pN)
 Jz:mg "_law_since" = some (.ref pP)
 JA:mg "_law_whole" = some (.ref pQ)
 JB:mg "_law_wholes" = some (.ref pR)
 JC:mg "_law_rim" = some (.ref pS)
 Qo:mg "_law_leads" = some (.ref pU)
 Qp:mg "_law_lead_all" = some (.ref pV)
 JD:mg "_law_is_side" = some (.ref pW)
 Qq:mg "_law_right" = some (.ref pX)
 Qs:mg "_law_thick" = some (.ref pY)
 Si:mg "law" = some (.ref pZ)
 Qu:Fun K "steps_of" "steps_of" (top 3) yl p5
 Qv:Fun K "free_steps" "free_steps" (top 4) ym p6
 Qw:Fun K "led_steps" "led_steps" (top 5) yo p7
 MB:Fun K "shortest_ways" "shortest_ways" (top 6) yp p8
 Qy:Fun K "lead_along" "lead_along" (top 7) yq p9
 MC:Binds K p7 ["steps","heads"] []
 Io:Binds K p8 ["steps","a"] []
 Qz:Fun K "parted" "parted" (top 8) yr p_
 MD:Binds K p5 ["n","ties"] []
 ME:Binds K p6 ["steps","heads"] []
 MF:Binds K p9 ["heads","way"] []
 MG:Binds K p_ ["steps","heads","a","b","count"] []
 EN:Fun K "ways_apart" "ways_apart" (top 1) yt qc
 BK:Binds K qc ["n","ties","a","b","most"] []
 MH:Fun K "hang_often" "hang_often" (top 2) yu qd
 QA:Fun K "is_whole" "is_whole" (top 15) yw qe
 MI:Binds K qe ["thing"] []
 BL:Fun K "is_within" "is_within" (top 16) yz qf
 yC:Binds K qf ["thing","low","high"] []
 JE:Fun K "is_places" "is_places" (top 17) oU iU
 vL:Fun K "is_place" "is_place" (top 18) oV iV
 EO:Fun K "is_layers" "is_layers" (top 19) oW iW
 JF:Fun K "is_moment" "is_moment" (top 20) oX iX
 rL:Binds K iV ["n","thing"] []
 ER:Binds K iX ["thing"] []
 JG:Fun K "is_tie_either_way" "is_tie_either_way" (top 21) oY iY
 ES:Binds K iY ["n","thing"] []
 JH:Fun K "is_tie" "is_tie" (top 22) oZ iZ
 JI:Fun K "is_rising" "is_rising" (top 23) o6 i0
 JJ:Fun K "is_pair" "is_pair" (top 24) o7 i6
 Ae:Binds K iW ["thing"] []
 JK:Fun K "look_at_layers" "look_at_layers" (top 25) o8 i7
 ET:Binds K i6 ["n","a","b"] []
 JL:Fun K "look_at_pair" "look_at_pair" (top 26) o9 i8
 JM:Fun K "merged" "merged" (top 28) o_ i9
 JN:Fun K "least_layer" "least_layer" (top 31) pq i_
 EU:Binds K i7 ["k"] []
 EV:Binds K i9 ["groups","a","b"] []
 EW:Binds K i_ ["layers","a","b"] []
 EX:Fun K "layered" "layered" (top 30) pA jb
 EY:Binds K iU ["thing"] []
 EZ:Binds K iZ ["n","thing"] []
 E1:Binds K i0 ["things"] []
 JO:Fun K "is_record" "is_record" (top 34) pB jd
 E2:Fun K "since" "since" (top 35) pC je
 Af:Binds K jb ["n","record","k"] []
 E3:Binds K jd ["n","thing"] []
 JP:Fun K "is_net" "is_net" (top 37) pD jf
 E4:Binds K jf ["thing"] []
 JQ:Fun K "look_at_net" "look_at_net" (top 38) pF jh
 E5:Binds K jh ["thing"] []
 JR:Fun K "look_at_net_layers" "look_at_net_layers" (top 39) pG ji
 JS:Fun K "net_of" "net_of" (top 40) pH jj
 Ip:Binds K qd ["n","ties","a","b","times"] []
 JT:Fun K "latest" "latest" (top 43) pI jl
 E6:Binds K i8 ["n","a","b"] []
 Ag:Binds K je ["record","t"] []
 E7:Binds K ji ["net","j"] []
 E8:Binds K jl ["n","ties","a","b","j"] []
 Ah:Fun K "when" "when" (top 42) pJ jm
 vM:Fun K "_law_pool" "_law_pool" (top 45) pK jn
 cE:Fun K "_law_take" "_law_take" (top 46) pL jo
 cy:Binds K jo ["pool","many"] []
 JU:Fun K "_law_many" "_law_many" (top 47) pM jq
 JV:Fun K "_law_record" "_law_record" (top 48) pN jr
 E9:Fun K "_law_since" "_law_since" (top 50) pP jt
 E_:Fun K "_law_whole" "_law_whole" (top 51) pQ ju
 Ai:Binds K ju ["thing"] []
 Fb:Fun K "_law_wholes" "_law_wholes" (top 52) pR jv
 Fc:Fun K "_law_rim" "_law_rim" (top 53) pS jx
 Aj:Binds K jv ["thing"] []
 JX:Fun K "_law_leads" "_law_leads" (top 54) pU jy
 Fe:Binds K jy ["ties","a","b","way"] []
 JY:Fun K "_law_lead_all" "_law_lead_all" (top 55) pV jz
 Ff:Fun K "_law_is_side" "_law_is_side" (top 56) pW jA
 Ak:Binds K jt ["record","t"] []
 Al:Binds K jx ["ties","side"] []
 Fg:Binds K jz ["ties","a","b","ways"] []
 Am:Binds K jA ["n","side","a","b"] []
 JZ:Fun K "_law_right" "_law_right" (top 57) pX jB
 J0:Fun K "_law_thick" "_law_thick" (top 58) pY jC
 Fi:Binds K jj ["n","record","k"] []
 vN:Binds K jm ["net","a","b","j"] []
 rM:Binds K jn ["script","k"] []
 Fj:Binds K jq ["pool"] []
 Fo:Binds K jr ["pool","n","most"] []
 Fp:Binds K jB ["n","ties","a","b","j","found"] []
 Fq:Binds K jC ["pool","n","many"] []
 QB:Fun K "law" "law" (top 59) pZ lC
section
variable{P':Program}{w:World}{K:gc}{mg:Str->Option Value}{base:Heap}{yl ym yo yp yq yr yt yu yw yz oU oV oW oX oY oZ o6 o7 o8 o9 o_ pq pA pB pC pD pF pG pH pI pJ pK pL pM pN pP pQ pR pS pU pV pW pX pY pZ:Addr}
variable{p5 p6 p7 p8 p9 p_ qc qd qe qf iU iV iW iX iY iZ i0 i6 i7 i8 i9 i_ jb jd je jf jh ji jj jl jm jn jo jq jr jt ju jv jx jy jz jA jB jC lC:FuncData}
theorem vO:ay ["n","ties","steps","moment","a","b"] ["n","ties"] (ah (top 3)):=fsc rfl rfl rfl rfl (by decide +kernel)
theorem MJ:(["n","ties","steps","moment","a","b","place"]:List Str).Nodup:=by decide +kernel
theorem QC:ay ["steps","heads"] ["steps","heads"] (ah (top 4)):=fsc rfl rfl rfl rfl (by decide +kernel)
theorem MK:(["steps","heads","row"]:List Str).Nodup:=by decide +kernel
theorem ML:(["steps","heads","row","step"]:List Str).Nodup:=by decide +kernel
theorem QD:ay ["steps","heads"] ["steps","heads"] (ah (top 5)):=fsc rfl rfl rfl rfl (by decide +kernel)
theorem MM:(["steps","heads","row"]:List Str).Nodup:=by decide +kernel
theorem MN:(["steps","heads","row","step"]:List Str).Nodup:=by decide +kernel
theorem vP:ay ["steps","a","ways","pending","place","step"] ["steps","a"] (ah (top 6)):=fsc rfl rfl rfl rfl (by decide +kernel)
theorem Ft:ay ["heads","way","moment","place"] ["heads","way"] (ah (top 7)):=fsc rfl rfl rfl rfl (by decide +kernel)
theorem rN:ay ["steps","heads","a","b","count","left","ways","time","way","moment"] ["steps","heads","a","b","count"] (ah (top 8)):=fsc rfl rfl rfl rfl (by decide +kernel)
theorem MO:(["steps","heads","a","b","count","left","ways","time","way","moment","step"]:List Str).Nodup:=by decide +kernel
theorem mj:ay ["n","ties","a","b","most","steps","heads","side","count","found"] ["n","ties","a","b","most"] (ah (top 1)):=fsc rfl rfl rfl rfl (by decide +kernel)
theorem QE:ay ["n","ties","a","b","times"] ["n","ties","a","b","times"] (ah (top 2)):=fsc rfl rfl rfl rfl (by decide +kernel)
theorem QF:ay ["thing"] ["thing"] (ah (top 15)):=fsc rfl rfl rfl rfl (by decide +kernel)
theorem QG:ay ["thing","low","high"] ["thing","low","high"] (ah (top 16)):=fsc rfl rfl rfl rfl (by decide +kernel)
theorem MP:ay ["thing"] ["thing"] (ah (top 17)):=fsc rfl rfl rfl rfl (by decide +kernel)
theorem MQ:ay ["n","thing"] ["n","thing"] (ah (top 18)):=fsc rfl rfl rfl rfl (by decide +kernel)
theorem MR:ay ["thing"] ["thing"] (ah (top 19)):=fsc rfl rfl rfl rfl (by decide +kernel)
theorem MT:ay ["thing"] ["thing"] (ah (top 20)):=fsc rfl rfl rfl rfl (by decide +kernel)
theorem MU:ay ["n","thing"] ["n","thing"] (ah (top 21)):=fsc rfl rfl rfl rfl (by decide +kernel)
theorem MV:ay ["n","thing"] ["n","thing"] (ah (top 22)):=fsc rfl rfl rfl rfl (by decide +kernel)
theorem MW:ay ["things"] ["things"] (ah (top 23)):=fsc rfl rfl rfl rfl (by decide +kernel)
theorem Iq:(["things","at"]:List Str).Nodup:=by decide +kernel
theorem MX:ay ["n","a","b"] ["n","a","b"] (ah (top 24)):=fsc rfl rfl rfl rfl (by decide +kernel)
theorem MY:ay ["k"] ["k"] (ah (top 25)):=fsc rfl rfl rfl rfl (by decide +kernel)
theorem MZ:ay ["n","a","b"] ["n","a","b"] (ah (top 26)):=fsc rfl rfl rfl rfl (by decide +kernel)
theorem M0:ay ["groups","a","b"] ["groups","a","b"] (ah (top 28)):=fsc rfl rfl rfl rfl (by decide +kernel)
theorem Ir:(["groups","a","b","group"]:List Str).Nodup:=by decide +kernel
theorem yD:ay ["layers","a","b","at","groups"] ["layers","a","b"] (ah (top 31)):=fsc rfl rfl rfl rfl (by decide +kernel)
theorem jE:ay ["n","record","k","layers","numbers","moment","a","b","number"] ["n","record","k"] (ah (top 30)):=fsc rfl rfl rfl rfl (by decide +kernel)
theorem Iu:(["n","record","k","layers","numbers","moment","a","b","number","layer"]:List Str).Nodup:=by decide +kernel
theorem M3:ay ["n","thing"] ["n","thing"] (ah (top 34)):=fsc rfl rfl rfl rfl (by decide +kernel)
theorem Iv:(["n","thing","tie"]:List Str).Nodup:=by decide +kernel
theorem Iw:(["n","thing","tie"]:List Str).Nodup:=by decide +kernel
theorem M4:ay ["record","t"] ["record","t"] (ah (top 35)):=fsc rfl rfl rfl rfl (by decide +kernel)
theorem Iz:(["record","t","tie"]:List Str).Nodup:=by decide +kernel
theorem M5:ay ["thing"] ["thing"] (ah (top 37)):=fsc rfl rfl rfl rfl (by decide +kernel)
theorem M6:ay ["thing"] ["thing"] (ah (top 38)):=fsc rfl rfl rfl rfl (by decide +kernel)
theorem M7:ay ["net","j"] ["net","j"] (ah (top 39)):=fsc rfl rfl rfl rfl (by decide +kernel)
theorem Fv:ay ["n","record","k","numbers"] ["n","record","k"] (ah (top 40)):=fsc rfl rfl rfl rfl (by decide +kernel)
theorem An:(["n","record","k","numbers","tie","number"]:List Str).Nodup:=by decide +kernel
theorem lD:ay ["n","ties","a","b","j","low","high","middle"] ["n","ties","a","b","j"] (ah (top 43)):=fsc rfl rfl rfl rfl (by decide +kernel)
theorem tM:ay ["net","a","b","j","t","ways","side"] ["net","a","b","j"] (ah (top 42)):=fsc rfl rfl rfl rfl (by decide +kernel)
theorem fJ:ay ["script","k","cell","number","found","turn"] ["script","k"] (ah (top 45)):=fsc rfl rfl rfl rfl (by decide +kernel)
theorem Fw:ay ["pool","many","digit"] ["pool","many"] (ah (top 46)):=fsc rfl rfl rfl rfl (by decide +kernel)
theorem M8:ay ["pool"] ["pool"] (ah (top 47)):=fsc rfl rfl rfl rfl (by decide +kernel)
theorem cF:ay ["pool","n","most","many","kind","step","times","way","moment","found","k","one","other"] ["pool","n","most"] (ah (top 48)):=fsc rfl rfl rfl rfl (by decide +kernel)
theorem M9:ay ["record","t"] ["record","t"] (ah (top 50)):=fsc rfl rfl rfl rfl (by decide +kernel)
theorem IA:(["record","t","tie"]:List Str).Nodup:=by decide +kernel
theorem M_:ay ["thing"] ["thing"] (ah (top 51)):=fsc rfl rfl rfl rfl (by decide +kernel)
theorem Na:ay ["thing"] ["thing"] (ah (top 52)):=fsc rfl rfl rfl rfl (by decide +kernel)
theorem IB:(["thing","part"]:List Str).Nodup:=by decide +kernel
theorem Nb:ay ["ties","side"] ["ties","side"] (ah (top 53)):=fsc rfl rfl rfl rfl (by decide +kernel)
theorem IC:(["ties","side","tie"]:List Str).Nodup:=by decide +kernel
theorem lE:ay ["ties","a","b","way","ends","tie","here","moment"] ["ties","a","b","way"] (ah (top 54)):=fsc rfl rfl rfl rfl (by decide +kernel)
theorem yE:ay ["ties","a","b","ways","met","way"] ["ties","a","b","ways"] (ah (top 55)):=fsc rfl rfl rfl rfl (by decide +kernel)
theorem Nc:ay ["n","side","a","b"] ["n","side","a","b"] (ah (top 56)):=fsc rfl rfl rfl rfl (by decide +kernel)
theorem ID:(["n","side","a","b","place"]:List Str).Nodup:=by decide +kernel
theorem Fx:ay ["n","ties","a","b","j","found","t"] ["n","ties","a","b","j","found"] (ah (top 57)):=fsc rfl rfl rfl rfl (by decide +kernel)
theorem jF:ay ["pool","n","many","found","moment","k","one","other"] ["pool","n","many"] (ah (top 58)):=fsc rfl rfl rfl rfl (by decide +kernel)
theorem bH:ay ["script","at","pool","n","k","record","j","net","ties","a","b","found","kept","way"] ["script"] (ah (top 59)):=fsc rfl rfl rfl rfl (by decide +kernel)
variable(T:Txt mg K base yl ym yo yp yq yr yt yu yw yz oU oV oW oX oY oZ o6 o7 o8 o9 o_ pq pA pB pC pD pF pG pH pI pJ pK pL pM pN pP pQ pR pS pU pV pW pX pY pZ p5 p6 p7 p8 p9 p_ qc qd qe qf iU iV iW iX iY iZ i0 i6 i7 i8 i9 i_ jb jd je jf jh ji jj jl jm jn jo jq jr jt ju jv jx jy jz jA jB jC lC)
include T
theorem QH :
  aP P' w K mg base CX0 1 yl p5 ["n","ties"] (spD D7):=by
 refine T.Qu.ok vO (fun vs H Q E h=>aK h) (fun cdv A outer s H vs Q E hr h=>?_);exact ⟨_,(LJ 2 ["n","ties","steps","moment","a","b"] ["place"] vO.nd (c_n 6 MJ rfl rfl) (AW rfl T.dB (aa (d_v 0) af)) (Jf To rfl (i_S (d_v 1)) (g_t rfl (b5 3 vO.nd (b5 4 vO.nd (b5 5 vO.nd nC))))
  (Je (Rr (j4 hr (d_v 4) (d_v 5)) (LI (Jg (d_v 4) (lR (aa (d_v 3) (aa (d_v 5) af))))
  (Je (Jg (d_v 5) (lR (aa (d_v 3) (aa (d_v 4) af)))))) OS)))
  (au (s_r (d_v 2)))),bG (n:=2) (m:=4) rfl h⟩
theorem QI :
  aP P' w K mg base CX0 1 ym p6 ["steps","heads"] (spD D8):=by
 refine T.Qv.ok QC (fun vs H Q E h=>aK h) (fun cdv A outer s H vs Q E hr h=>?_);exact⟨_,(au (s_r (fO 0 ["steps","heads"] ["row"] (c_n 2 MK rfl rfl) (d_v 0) (fun _ _ _ _ _=>ee) (fun _ _ _ _ _=>(fO 2 ["steps","heads","row"] ["step"] (c_n 3 ML rfl rfl) (d_v 2) (fun _ _ _ _ _=>kT (j4 hr (C2 hr (d_v 1) (aO (d_v 3) d_i)) (aO (d_v 3) d_i))) (fun _ _ _ _ _=>(d_v 3))))))),bG (n:=2) (m:=0) rfl h⟩
theorem QJ :
  aP P' w K mg base CX0 1 yo p7 ["steps","heads"] (spD D9):=by
 refine T.Qw.ok QD (fun vs H Q E h=>aK h) (fun cdv A outer s H vs Q E hr h=>?_);exact⟨_,(au (s_r (fO 0 ["steps","heads"] ["row"] (c_n 2 MM rfl rfl) (d_v 0) (fun _ _ _ _ _=>ee) (fun _ _ _ _ _=>(fO 2 ["steps","heads","row"] ["step"] (c_n 3 MN rfl rfl) (d_v 2) (fun _ _ _ _ _=>kT (uv hr (C2 hr (d_v 1) (aO (d_v 3) d_i)) (aO (d_v 3) d_i))) (fun _ _ _ _ _=>(d_v 3))))))),bG (n:=2) (m:=0) rfl h⟩
theorem J1 :
  aP P' w K mg base CX0 1 yp p8 ["steps","a"] (spD u6):=by
 refine T.MB.ok vP (fun vs H Q E h=>aK h) (fun cdv A outer s H vs Q E hr h=>?_);exact ⟨_,(aj (s_a 2 vP.nd (Ro (d_v 1) (fN af)))
  (aj (s_a 3 vP.nd (fN (aa (d_v 1) af)))
  (aj (Li 100 To (Rq (d_v 3))
  (aj (s_a 4 vP.nd (Hi 3 d_i))
  (au (gp To rfl (i_S (aO (d_v 0) (d_v 4))) (g_n 5 vP.nd)
  (au (cB (C1 hr (aO (d_v 5) d_i) (d_v 2)) (aj (xM 2 hr (aO (d_v 5) d_i) (aZ (xK hr (d_v 2) (d_v 4)) (fN (aa (d_v 5) af))))
  (au (zb 3 (aO (d_v 5) d_i)))) bz))))))
  (au (s_r (d_v 2)))))),bG (n:=2) (m:=4) rfl h⟩
theorem QK :
  aP P' w K mg base CX0 1 yq p9 ["heads","way"] (spM D_):=by
 refine T.Qy.ok Ft (fun vs H Q E h=>gP h) (fun cdv A outer s H vs Q E hr h=>?_);exact ⟨_,(au (gp To rfl (i_S (d_v 1)) (g_t rfl (b5 2 Ft.nd (b5 3 Ft.nd nC)))
  (au (cB (Ja hr (d_v 2) (d_v 0)) (au (s_e (De 0 (d_v 2)))) (au (xM 0 hr (d_v 2) (d_v 3))))))),uC (n:=2) (m:=2) rfl h⟩
theorem yF :
  aP P' w K mg base CX0 2 yr p_ ["steps","heads","a","b","count"] (spP dG):=by
 refine T.Qz.ok rN (fun vs H Q E h=>sJ h) (fun cdv A outer s H vs Q E hr h=>?_);exact ⟨_,(fD (s_a 5 rN.nd (LM rfl T.MA (aa (d_v 1) af)))
  (L_ 6 rN.nd (Jf To rfl (AW rfl T.dB (aa (d_v 4) af)) (g_n 7 rN.nd)
  (Pd 8 (RJ 8 ["steps","heads","a","b","count","left","ways","time","way","moment"] ["step"] rN.nd (c_n 10 MO rfl rfl) (i_S (xK hr (aB (J1 T) (Br.hm hr) rfl T.P4 T.MB.kp T.Io (aa (uH (QJ T) (Br.hm hr) rfl T.Sa T.Qw.kp T.MC (aa (d_v 0) (aa (d_v 5) af))) (aa (d_v 2) af))) (d_v 3))) (fun _ _ _ _ _=>ee) (fun _ _ _ _ _=>(aO (d_v 10) d_i))) To rfl (g_n 9 rN.nd) (De 5 (d_v 9)))))),Dj (n:=5) (m:=5) rfl h⟩
theorem cG :
  aP P' w K mg base CX0 3 yt qc ["n","ties","a","b","most"] (spP bg):=by
 refine T.EN.ok mj (fun vs H Q E h=>sJ h) (fun cdv A outer s H vs Q E hr h=>?_);exact ⟨_,(fD (s_a 5 mj.nd (aB (QH T) (Br.hm hr) rfl T.R9 T.Qu.kp T.MD (aa (d_v 0) (aa (d_v 1) af))))
  (fD (s_a 6 mj.nd OH)
  (fD (s_a 7 mj.nd d_n)
  (fD (s_a 8 mj.nd d_i)
  (fD (Li 100 To (t_w (w_and (Lf (d_v 8) (d_v 4)) (Lh (Jc (d_v 7) d_n))))
  (aj (s_a 9 mj.nd (aB (J1 T) (Br.hm hr) rfl T.P4 T.MB.kp T.Io (aa (uH (QI T) (Br.hm hr) rfl T.R_ T.Qv.kp T.ME (aa (d_v 5) (aa (d_v 6) af))) (aa (d_v 2) af))))
  (au (cB (Ja hr (d_v 3) (d_v 9)) (aj (s_e (aX (QK T) (Br.hm hr) rfl T.Sb T.Qy.kp T.MF (aa (d_v 6) (aa (xK hr (d_v 9) (d_v 3)) af))))
  (au (s_a 8 mj.nd (aZ (d_v 8) d_i)))) (au (s_a 7 mj.nd (GW rfl T.kF (aa (Ho rfl rfl T.vK (aa (d_v 9) af)) af))))))))
  (q_r (OZ (OY (Dl (yF T) (Br.hm hr) rfl T.Sd T.Qz.kp T.MG (@aa _ _ _ _ _ (d_v 5) (@aa _ _ _ _ _ (d_v 6) (@aa _ _ _ _ _ (d_v 2) (@aa _ _ _ _ _ (d_v 3) (@aa _ _ _ _ _ (d_v 8) af rfl) rfl) rfl) rfl) rfl)) (OY (p_o (d_v 7)) Rx))))))))),Dj (n:=5) (m:=5) rfl h⟩
theorem J2 :
  aP P' w K mg base CX0 4 yu qd ["n","ties","a","b","times"] (spD Bu):=by
 refine T.MH.ok QE (fun vs H Q E h=>aK h) (fun cdv A outer s H vs Q E hr h=>?_);exact⟨_,(au (s_r (OJ (aO (ki (cG T) (Br.hm hr) rfl T.Im T.EN.kp T.BK (@aa _ _ _ _ _ (d_v 0) (@aa _ _ _ _ _ (d_v 1) (@aa _ _ _ _ _ (d_v 2) (@aa _ _ _ _ _ (d_v 3) (@aa _ _ _ _ _ (d_v 4) af rfl) rfl) rfl) rfl) rfl)) d_i) d_n))),bG (n:=5) (m:=0) rfl h⟩
theorem QL :
  aP P' w K mg base CX0 1 yw qe ["thing"] (spD HN):=by
 refine T.QA.ok QF (fun vs H Q E h=>aK h) (fun cdv A outer s H vs Q E hr h=>?_);exact⟨_,(au (s_r (eU (gu zc (by rfl) rfl T.vJ rfl T.aS (d_v 0)) (j5 (IY (gu uw (by rfl) rfl T.EJ rfl T.aS (d_v 0))))))),bG (n:=1) (m:=0) rfl h⟩
theorem vQ :
  aP P' w K mg base CX0 2 yz qf ["thing","low","high"] (spD u7):=by
 refine T.BL.ok QG (fun vs H Q E h=>aK h) (fun cdv A outer s H vs Q E hr h=>?_);exact⟨_,(au (s_r (eU (aB (QL T) (Br.hm hr) rfl T.Se T.QA.kp T.MI (aa (d_v 0) af)) (j5 (zd yM y_ yM y_ (d_v 1) (d_v 0) (d_v 2)))))),bG (n:=3) (m:=0) rfl h⟩
theorem Nd :
  aP P' w K mg base CX0 3 oU iU ["thing"] (spD zC):=by
 refine T.JE.ok MP (fun vs H Q E h=>aK h) (fun cdv A outer s H vs Q E hr h=>?_);exact⟨_,(au (s_r (aB (vQ T) (Br.hm hr) rfl T.EL T.BL.kp T.yC (aa (d_v 0) (aa d_i (aa d_i af)))))),bG (n:=1) (m:=0) rfl h⟩
theorem tN :
  aP P' w K mg base CX0 3 oV iV ["n","thing"] (spD ou):=by
 refine T.vL.ok MQ (fun vs H Q E h=>aK h) (fun cdv A outer s H vs Q E hr h=>?_);exact⟨_,(au (s_r (aB (vQ T) (Br.hm hr) rfl T.EL T.BL.kp T.yC (aa (d_v 1) (aa d_i (aa (lQ (d_v 0) d_i) af)))))),bG (n:=2) (m:=0) rfl h⟩
theorem Fy :
  aP P' w K mg base CX0 3 oW iW ["thing"] (spD oz):=by
 refine T.EO.ok MR (fun vs H Q E h=>aK h) (fun cdv A outer s H vs Q E hr h=>?_);exact⟨_,(au (s_r (aB (vQ T) (Br.hm hr) rfl T.EL T.BL.kp T.yC (aa (d_v 0) (aa d_i (aa d_i af)))))),bG (n:=1) (m:=0) rfl h⟩
theorem Nf :
  aP P' w K mg base CX0 3 oX iX ["thing"] (spD zD):=by
 refine T.JF.ok MT (fun vs H Q E h=>aK h) (fun cdv A outer s H vs Q E hr h=>?_);exact⟨_,(au (s_r (aB (vQ T) (Br.hm hr) rfl T.EL T.BL.kp T.yC (aa (d_v 0) (aa d_i (aa (j3 d_i d_i) af)))))),bG (n:=1) (m:=0) rfl h⟩
theorem Ng :
  aP P' w K mg base CX0 4 oY iY ["n","thing"] (spD zF):=by
 refine T.JG.ok MU (fun vs H Q E h=>aK h) (fun cdv A outer s H vs Q E hr h=>?_);exact ⟨_,(aj (cB (t_w (w_or (bS (bM (gu kit_tuple (by rfl) rfl T.kF rfl T.aS (d_v 1)))) (gm (j4 hr (dO rfl T.cX (aa (d_v 1) af)) d_i)))) (au (s_r d_b)) bz)
  (au (s_r (eU (aB (Nf T) (Br.hm hr) rfl T.P7 T.JF.kp T.ER (aa (aO (d_v 1) d_i) af)) (eU (aB (tN T) (Br.hm hr) rfl T.Ac T.vL.kp T.rL (aa (d_v 0) (aa (aO (d_v 1) d_i) af))) (j5 (aB (tN T) (Br.hm hr) rfl T.Ac T.vL.kp T.rL (aa (d_v 0) (aa (aO (d_v 1) d_i) af))))))))),bG (n:=2) (m:=0) rfl h⟩
theorem Nh :
  aP P' w K mg base CX0 5 oZ iZ ["n","thing"] (spD zG):=by
 refine T.JH.ok MV (fun vs H Q E h=>aK h) (fun cdv A outer s H vs Q E hr h=>?_);exact⟨_,(au (s_r (eU (aB (Ng T) (Br.hm hr) rfl T.P8 T.JG.kp T.ES (aa (d_v 0) (aa (d_v 1) af))) (j5 (Rc (aO (d_v 1) d_i) (aO (d_v 1) d_i)))))),bG (n:=2) (m:=0) rfl h⟩
theorem Ni :
  aP P' w K mg base CX0 1 o6 i0 ["things"] (spD zH):=by
 refine T.JI.ok MW (fun vs H Q E h=>aK h) (fun cdv A outer s H vs Q E hr h=>?_);exact⟨_,(au (s_r (ze rfl rfl T.z_ (aa (Ox ["things"] ["at"] (c_n 1 Iq rfl rfl) (Rg rfl T.dB (aa d_i (aa (dO rfl T.cX (aa (d_v 0) af)) af))) (fun _ _ _ _ _=>ee) (fun _ _ _ _ _=>(Le (aO (d_v 0) (lQ (d_v 1) d_i)) (aO (d_v 0) (d_v 1))))) af)))),bG (n:=1) (m:=0) rfl h⟩
theorem Nj :
  aP P' w K mg base CX0 4 o7 i6 ["n","a","b"] (spD zI):=by
 refine T.JJ.ok MX (fun vs H Q E h=>aK h) (fun cdv A outer s H vs Q E hr h=>?_);exact⟨_,(au (s_r (eU (aB (tN T) (Br.hm hr) rfl T.Ac T.vL.kp T.rL (aa (d_v 0) (aa (d_v 1) af))) (eU (aB (tN T) (Br.hm hr) rfl T.Ac T.vL.kp T.rL (aa (d_v 0) (aa (d_v 2) af))) (j5 (Rb hr (d_v 1) (d_v 2))))))),bG (n:=3) (m:=0) rfl h⟩
theorem Nk :
  aP P' w K mg base CX0 4 o8 i7 ["k"] (spD zJ):=by
 refine T.JK.ok MY (fun vs H Q E h=>aK h) (fun cdv A outer s H vs Q E hr h=>?_);exact⟨_,(au (cB (bS (bM (aB (Fy T) (Br.hm hr) rfl T.Jw T.EO.kp T.Ae (aa (d_v 0) af)))) (au mH) bz)),bG (n:=1) (m:=0) rfl h⟩
theorem Nl :
  aP P' w K mg base CX0 5 o9 i8 ["n","a","b"] (spD zK):=by
 refine T.JL.ok MZ (fun vs H Q E h=>aK h) (fun cdv A outer s H vs Q E hr h=>?_);exact⟨_,(au (cB (bS (bM (aB (Nj T) (Br.hm hr) rfl T.Qa T.JJ.kp T.ET (aa (d_v 0) (aa (d_v 1) (aa (d_v 2) af)))))) (au mH) bz)),bG (n:=3) (m:=0) rfl h⟩
theorem Nm :
  aP P' w K mg base CX0 1 o_ i9 ["groups","a","b"] (spD zL):=by
 refine T.JM.ok M0 (fun vs H Q E h=>aK h) (fun cdv A outer s H vs Q E hr h=>?_);exact⟨_,(au (s_r (fO 0 ["groups","a","b"] ["group"] (c_n 3 Ir rfl rfl) (d_v 0) (fun _ _ _ _ _=>ee) (fun _ _ _ _ _=>(Rf (uv hr (d_v 3) (aO (d_v 0) (d_v 2))) (aO (d_v 0) (d_v 1)) (d_v 3)))))),bG (n:=3) (m:=0) rfl h⟩
theorem Nn :
  aP P' w K mg base CX0 1 pq i_ ["layers","a","b"] (spD u9):=by
 refine T.JN.ok yD (fun vs H Q E h=>aK h) (fun cdv A outer s H vs Q E hr h=>?_);exact ⟨_,(aj (gp To rfl (Rl rfl T.vH (d_v 0)) (g_t rfl (b5 3 yD.nd (b5 4 yD.nd nC)))
  (au (cB (j4 hr (aO (d_v 4) (d_v 1)) (aO (d_v 4) (d_v 2))) (au (s_r (aZ (d_v 3) d_i))) bz)))
  (au (s_r d_i))),bG (n:=3) (m:=2) rfl h⟩
theorem Fz :
  aP P' w K mg base CX0 5 pA jb ["n","record","k"] (spD rm):=by
 refine T.EX.ok jE (fun vs H Q E h=>aK h) (fun cdv A outer s H vs Q E hr h=>?_);exact ⟨_,(aj (s_e (aB (Nk T) (Br.hm hr) rfl T.Qc T.JK.kp T.EU (aa (d_v 2) af)))
  (aj (Rj 3 ["n","record","k","layers","numbers","moment","a","b","number"] ["layer"] jE.nd (c_n 9 Iu rfl rfl) (AW rfl T.dB (aa (d_v 2) af)) (fun _ _ _ _ _=>ee) (fun _ _ _ _ _=>(Ls rfl rfl T.jD rfl T.dB (aa (d_v 0) af))))
  (aj (s_a 4 jE.nd (fN af))
  (aj (gp To rfl (OD rfl T.qg (d_v 1)) (g_t rfl (b5 5 jE.nd (b5 6 jE.nd (b5 7 jE.nd nC))))
  (aj (s_a 8 jE.nd (aB (Nn T) (Br.hm hr) rfl T.Qf T.JN.kp T.EW (aa (d_v 3) (aa (d_v 6) (aa (d_v 7) af)))))
  (aj (cB (GV (d_v 8) d_i) (au (IZ 3 (lQ (d_v 8) d_i) (aB (Nm T) (Br.hm hr) rfl T.Qe T.JM.kp T.EV (aa (aO (d_v 3) (lQ (d_v 8) d_i)) (aa (d_v 6) (aa (d_v 7) af)))))) bz)
  (au (zb 4 (d_v 8))))))
  (au (s_r (G3 rfl rfl T.jD rfl T.qg (d_v 4)))))))),bG (n:=3) (m:=6) rfl h⟩
theorem Np :
  aP P' w K mg base CX0 6 pB jd ["n","thing"] (spD zM):=by
 refine T.JO.ok M3 (fun vs H Q E h=>aK h) (fun cdv A outer s H vs Q E hr h=>?_);obtain⟨kG,vR⟩:=T.qh;exact ⟨_,(aj (cB (t_w (w_or (bS (bM (aB (Nd T) (Br.hm hr) rfl T.P6 T.JE.kp T.EY (aa (d_v 0) af)))) (w_or (bS (bM (gu nD (by rfl) rfl T.jD rfl T.aS (d_v 1)))) (gm (GV (dO rfl T.cX (aa (d_v 1) af)) (d_g rfl vR)))))) (au (s_r d_b)) bz)
  (aj (cB (bS (bM (ze rfl rfl T.z_ (aa (fO 1 ["n","thing"] ["tie"] (c_n 2 Iv rfl rfl) (d_v 1) (fun _ _ _ _ _=>ee) (fun _ _ _ _ _=>(aB (Nh T) (Br.hm hr) rfl T.P9 T.JH.kp T.EZ (aa (d_v 0) (aa (d_v 2) af))))) af)))) (au (s_r d_b)) bz)
  (au (s_r (aB (Ni T) (Br.hm hr) rfl T.P_ T.JI.kp T.E1 (aa (fO 1 ["n","thing"] ["tie"] (c_n 2 Iw rfl rfl) (d_v 1) (fun _ _ _ _ _=>ee) (fun _ _ _ _ _=>(aO (d_v 2) d_i))) af)))))),bG (n:=2) (m:=0) rfl h⟩
theorem FA :
  aP P' w K mg base CX0 1 pC je ["record","t"] (spD u_):=by
 refine T.E2.ok M4 (fun vs H Q E h=>aK h) (fun cdv A outer s H vs Q E hr h=>?_);exact⟨_,(au (s_r (fO 0 ["record","t"] ["tie"] (c_n 2 Iz rfl rfl) (d_v 0) (fun _ _ _ _ _=>kT (Lg (aO (d_v 2) d_i) (d_v 1))) (fun _ _ _ _ _=>(d_v 2))))),bG (n:=2) (m:=0) rfl h⟩
theorem Nq :
  aP P' w K mg base CX0 7 pD jf ["thing"] (spD zN):=by
 refine T.JP.ok M5 (fun vs H Q E h=>aK h) (fun cdv A outer s H vs Q E hr h=>?_);exact ⟨_,(aj (cB (t_w (w_or (bS (bM (gu kit_tuple (by rfl) rfl T.kF rfl T.aS (d_v 0)))) (gm (j4 hr (dO rfl T.cX (aa (d_v 0) af)) d_i)))) (au (s_r d_b)) bz)
  (aj (cB (t_w (w_or (bS (bM (aB (Fy T) (Br.hm hr) rfl T.Jw T.EO.kp T.Ae (aa (aO (d_v 0) d_i) af)))) (gm (bS (bM (aB (Np T) (Br.hm hr) rfl T.Qg T.JO.kp T.E3 (aa (aO (d_v 0) d_i) (aa (aO (d_v 0) d_i) af)))))))) (au (s_r d_b)) bz)
  (au (s_r (IX hr d_i (aB (Fz T) (Br.hm hr) rfl T.Jx T.EX.kp T.Af (aa (aO (d_v 0) d_i) (aa (aO (d_v 0) d_i) (aa (aO (d_v 0) d_i) af))))))))),bG (n:=1) (m:=0) rfl h⟩
theorem Nr :
  aP P' w K mg base CX0 8 pF jh ["thing"] (spD zO):=by
 refine T.JQ.ok M6 (fun vs H Q E h=>aK h) (fun cdv A outer s H vs Q E hr h=>?_);exact⟨_,(au (cB (bS (bM (aB (Nq T) (Br.hm hr) rfl T.Qh T.JP.kp T.E4 (aa (d_v 0) af)))) (au mH) bz)),bG (n:=1) (m:=0) rfl h⟩
theorem Nt :
  aP P' w K mg base CX0 9 pG ji ["net","j"] (spD zP):=by
 refine T.JR.ok M7 (fun vs H Q E h=>aK h) (fun cdv A outer s H vs Q E hr h=>?_);exact ⟨_,(aj (s_e (aB (Nr T) (Br.hm hr) rfl T.Qi T.JQ.kp T.E5 (aa (d_v 0) af)))
  (au (cB (bS (bM (aB (vQ T) (Br.hm hr) rfl T.EL T.BL.kp T.yC (aa (d_v 1) (aa d_i (aa (aO (d_v 0) d_i) af)))))) (au mH) bz))),bG (n:=2) (m:=0) rfl h⟩
theorem Nu :
  aP P' w K mg base CX0 6 pH jj ["n","record","k"] (spD zQ):=by
 refine T.JS.ok Fv (fun vs H Q E h=>aK h) (fun cdv A outer s H vs Q E hr h=>?_);exact ⟨_,(aj (s_a 3 Fv.nd (aB (Fz T) (Br.hm hr) rfl T.Jx T.EX.kp T.Af (aa (d_v 0) (aa (d_v 1) (aa (d_v 2) af)))))
  (au (s_r (lR (aa (d_v 0) (aa (d_v 2) (aa (Ox ["n","record","k","numbers"] ["tie","number"] (c_t rfl (fun _ _ _ _ _=>(b5 4 An (b5 5 An nC)))) (OE rfl T.P1 (aa (d_v 1) (aa (d_v 3) af))) (fun _ _ _ _ _=>kT (GV (d_v 5) d_i)) (fun _ _ _ _ _=>(d_v 4))) af))))))),bG (n:=3) (m:=1) rfl h⟩
theorem Nv :
  aP P' w K mg base CX0 5 pI jl ["n","ties","a","b","j"] (spD rz):=by
 refine T.JT.ok lD (fun vs H Q E h=>aK h) (fun cdv A outer s H vs Q E hr h=>?_);exact ⟨_,(aj (cB (bS (bM (aB (J2 T) (Br.hm hr) rfl T.P5 T.MH.kp T.Ip (@aa _ _ _ _ _ (d_v 0) (@aa _ _ _ _ _ (d_v 1) (@aa _ _ _ _ _ (d_v 2) (@aa _ _ _ _ _ (d_v 3) (@aa _ _ _ _ _ (d_v 4) af rfl) rfl) rfl) rfl) rfl)))) (au (s_r d_n)) bz)
  (aj (s_a 5 lD.nd d_i)
  (aj (s_a 6 lD.nd (dO rfl T.cX (aa (d_v 1) af)))
  (aj (Li 100 To (GV (lQ (d_v 6) (d_v 5)) d_i)
  (aj (s_a 7 lD.nd (IW (aZ (d_v 5) (d_v 6)) d_i))
  (au (cB (bM (aB (J2 T) (Br.hm hr) rfl T.P5 T.MH.kp T.Ip (@aa _ _ _ _ _ (d_v 0) (@aa _ _ _ _ _ (Ri (d_v 1) (o_s (d_v 7)) o_n) (@aa _ _ _ _ _ (d_v 2) (@aa _ _ _ _ _ (d_v 3) (@aa _ _ _ _ _ (d_v 4) af rfl) rfl) rfl) rfl) rfl))) (au (s_a 5 lD.nd (d_v 7))) (au (s_a 6 lD.nd (d_v 7)))))))
  (au (s_r (aO (aO (d_v 1) (d_v 5)) d_i))))))),bG (n:=5) (m:=3) rfl h⟩
theorem qi :
  aP P' w K mg base CX0 10 pJ jm ["net","a","b","j"] (spP b7):=by
 refine T.Ah.ok tM (fun vs H Q E h=>sJ h) (fun cdv A outer s H vs Q E hr h=>?_);exact ⟨_,(fD (s_e (aB (Nt T) (Br.hm hr) rfl T.Qj T.JR.kp T.E7 (aa (d_v 0) (aa (d_v 3) af))))
  (fD (s_e (aB (Nl T) (Br.hm hr) rfl T.Qd T.JL.kp T.E6 (aa (aO (d_v 0) d_i) (aa (d_v 1) (aa (d_v 2) af)))))
  (fD (s_a 4 tM.nd (aB (Nv T) (Br.hm hr) rfl T.Ql T.JT.kp T.E8 (@aa _ _ _ _ _ (aO (d_v 0) d_i) (@aa _ _ _ _ _ (aO (d_v 0) d_i) (@aa _ _ _ _ _ (d_v 1) (@aa _ _ _ _ _ (d_v 2) (@aa _ _ _ _ _ (d_v 3) af rfl) rfl) rfl) rfl) rfl)))
  (O9 (Jc (d_v 4) d_n) (lR (aa d_s (aa (aO (ki (cG T) (Br.hm hr) rfl T.Im T.EN.kp T.BK (@aa _ _ _ _ _ (aO (d_v 0) d_i) (@aa _ _ _ _ _ (aO (d_v 0) d_i) (@aa _ _ _ _ _ (d_v 1) (@aa _ _ _ _ _ (d_v 2) (@aa _ _ _ _ _ (d_v 3) af rfl) rfl) rfl) rfl) rfl)) d_i) af)))
  (Po 5 0 tM.nd (cG T) (Br.hm hr) rfl T.Im T.EN.kp T.BK (@aa _ _ _ _ _ (aO (d_v 0) d_i) (@aa _ _ _ _ _ (aB (FA T) (Br.hm hr) rfl T.Jy T.E2.kp T.Ag (aa (aO (d_v 0) d_i) (aa (d_v 4) af))) (@aa _ _ _ _ _ (d_v 1) (@aa _ _ _ _ _ (d_v 2) (@aa _ _ _ _ _ (d_v 3) af rfl) rfl) rfl) rfl) rfl)
  (h_c (L0 6 tM.nd (RB (Dl (cG T) (Br.hm hr) rfl T.Im T.EN.kp T.BK (@aa _ _ _ _ _ (aO (d_v 0) d_i) (@aa _ _ _ _ _ (aB (FA T) (Br.hm hr) rfl T.Jy T.E2.kp T.Ag (aa (aO (d_v 0) d_i) (aa (aZ (d_v 4) d_i) af))) (@aa _ _ _ _ _ (d_v 1) (@aa _ _ _ _ _ (d_v 2) (@aa _ _ _ _ _ (d_v 3) af rfl) rfl) rfl) rfl) rfl))))
  (Pn (Pk d_s (Pk (d_v 4) (RP (RO 6 RN))))))))))),Dj (n:=4) (m:=3) rfl h⟩
theorem tO :
  aP P' w K mg base CX0 1 pK jn ["script","k"] (spD l0):=by
 refine T.vM.ok fJ (fun vs H Q E h=>aK h) (fun cdv A outer s H vs Q E hr h=>?_);exact ⟨_,(aj (s_a 2 fJ.nd d_i)
  (aj (cB (Lf (d_v 1) (dO rfl T.cX (aa (d_v 0) af))) (au (s_a 2 fJ.nd (aO (d_v 0) (d_v 1)))) bz)
  (aj (cB (Lg (d_v 2) (j3 d_i d_i)) (au (s_r (fN (aa (fM (d_v 2) (sF (sF (sF (sF (j3 d_i d_i) (j3 d_i d_i)) (j3 d_i d_i)) (j3 d_i d_i)) (j3 d_i d_i))) af)))) bz)
  (aj (s_a 3 fJ.nd (fM (aZ (aZ (aZ (d_v 2) (g_ (g_ d_i (d_v 1)) (d_v 1))) (g_ d_i (d_v 1))) d_i) d_i))
  (aj (s_a 4 fJ.nd d_i)
  (aj (gp To rfl (AW rfl T.dB (aa d_i af)) (g_n 5 fJ.nd)
  (aj (s_a 3 fJ.nd (fM (aZ (aZ (g_ (d_v 3) d_i) (g_ d_i (d_v 5))) d_i) d_i))
  (aj (s_a 3 fJ.nd (fM (g_ (d_v 3) (d_v 3)) d_i))
  (au (s_a 4 fJ.nd (aZ (g_ (d_v 4) d_i) (fM (aZ (g_ (d_v 3) d_i) (d_v 1)) d_i)))))))
  (au (s_r (fN (aa (d_v 4) af)))))))))),bG (n:=2) (m:=4) rfl h⟩
theorem bI :
  aP P' w K mg base CX0 1 pL jo ["pool","many"] (spM bJ):=by
 refine T.cE.ok Fw (fun vs H Q E h=>gP h) (fun cdv A outer s H vs Q E hr h=>?_);exact ⟨_,(aj (s_a 2 Fw.nd (fM (aO (d_v 0) d_i) (d_v 1)))
  (aj (IZ 0 d_i (IW (aO (d_v 0) d_i) (d_v 1)))
  (au (s_r (d_v 2))))),uC (n:=2) (m:=1) rfl h⟩
theorem Nx :
  aP P' w K mg base CX0 2 pM jq ["pool"] (spM vc):=by
 refine T.JU.ok M8 (fun vs H Q E h=>gP h) (fun cdv A outer s H vs Q E hr h=>?_);exact⟨_,(au (s_r (aO (fN (@aa _ _ _ _ _ d_i (@aa _ _ _ _ _ d_i (@aa _ _ _ _ _ d_i (@aa _ _ _ _ _ d_i (@aa _ _ _ _ _ d_i (@aa _ _ _ _ _ d_i (@aa _ _ _ _ _ d_i (@aa _ _ _ _ _ d_i af rfl) rfl) rfl) rfl) rfl) rfl) rfl) rfl)) (aX (bI T) (Br.hm hr) rfl T.cI T.cE.kp T.cy (aa (d_v 0) (aa d_i af)))))),uC (n:=1) (m:=0) rfl h⟩
theorem Ny :
  aP P' w K mg base CX0 2 pN jr ["pool","n","most"] (spM rA):=by
 refine T.JV.ok cF (fun vs H Q E h=>gP h) (fun cdv A outer s H vs Q E hr h=>?_);exact ⟨_,(aj (s_a 3 cF.nd (aX (bI T) (Br.hm hr) rfl T.cI T.cE.kp T.cy (aa (d_v 0) (aa (aZ (d_v 2) d_i) af))))
  (aj (s_a 4 cF.nd (aX (bI T) (Br.hm hr) rfl T.cI T.cE.kp T.cy (aa (d_v 0) (aa d_i af))))
  (aj (s_a 5 cF.nd (aO (fN (aa d_i (aa d_i (aa (j3 d_i d_i) (aa d_i af))))) (d_v 4)))
  (aj (s_a 6 cF.nd (aO (fN (aa d_i (aa (j3 d_i d_i) af))) (CL rfl T.vJ (aa (AU hr (d_v 4) d_i) af))))
  (aj (s_a 7 cF.nd (aX (bI T) (Br.hm hr) rfl T.cI T.cE.kp T.cy (aa (d_v 0) (aa d_i af))))
  (aj (s_a 8 cF.nd (g_ (aX (bI T) (Br.hm hr) rfl T.cI T.cE.kp T.cy (aa (d_v 0) (aa (d_v 5) af))) (d_v 6)))
  (aj (s_a 9 cF.nd (fN af))
  (aj (gp To rfl (AW rfl T.dB (aa (d_v 3) af)) (g_n 10 cF.nd)
  (aj (s_a 11 cF.nd (aX (bI T) (Br.hm hr) rfl T.cI T.cE.kp T.cy (aa (d_v 0) (aa (d_v 1) af))))
  (aj (s_a 12 cF.nd (aX (bI T) (Br.hm hr) rfl T.cI T.cE.kp T.cy (aa (d_v 0) (aa (d_v 1) af))))
  (aj (cB (uv hr (d_v 7) d_i) (au (s_a 12 cF.nd (fM (aZ (d_v 11) d_i) (d_v 1)))) bz)
  (aj (cB (uv hr (d_v 7) d_i) (au (s_a 12 cF.nd (fM (fM (aZ (aZ (d_v 11) (fM (d_v 12) d_i)) d_i) (sj rfl rfl T.Ab (aa (d_v 1) (aa d_i af)))) (d_v 1)))) bz)
  (aj (zb 9 (lR (aa (d_v 8) (aa (sj rfl rfl T.Ab (aa (d_v 11) (aa (d_v 12) af))) (aa (sr rfl rfl T.Aa (aa (d_v 11) (aa (d_v 12) af))) af)))))
  (au (s_a 8 cF.nd (aZ (aZ (d_v 8) d_i) (g_ (aX (bI T) (Br.hm hr) rfl T.cI T.cE.kp T.cy (aa (d_v 0) (aa (d_v 5) af))) (d_v 6)))))))))))
  (au (s_r (d_v 9))))))))))),uC (n:=3) (m:=10) rfl h⟩
theorem FD :
  aP P' w K mg base CX0 1 pP jt ["record","t"] (spD zR):=by
 refine T.E9.ok M9 (fun vs H Q E h=>aK h) (fun cdv A outer s H vs Q E hr h=>?_);exact⟨_,(au (s_r (fO 0 ["record","t"] ["tie"] (c_n 2 IA rfl rfl) (d_v 0) (fun _ _ _ _ _=>kT (Lg (aO (d_v 2) d_i) (d_v 1))) (fun _ _ _ _ _=>(d_v 2))))),bG (n:=2) (m:=0) rfl h⟩
theorem FF :
  aP P' w K mg base CX0 1 pQ ju ["thing"] (spD zS):=by
 refine T.E_.ok M_ (fun vs H Q E h=>aK h) (fun cdv A outer s H vs Q E hr h=>?_);exact⟨_,(au (s_r (eU (gu zc (by rfl) rfl T.vJ rfl T.aS (d_v 0)) (j5 (IY (gu uw (by rfl) rfl T.EJ rfl T.aS (d_v 0))))))),bG (n:=1) (m:=0) rfl h⟩
theorem FG :
  aP P' w K mg base CX0 2 pR jv ["thing"] (spD oA):=by
 refine T.Fb.ok Na (fun vs H Q E h=>aK h) (fun cdv A outer s H vs Q E hr h=>?_);exact⟨_,(au (s_r (ze rfl rfl T.z_ (aa (fO 0 ["thing"] ["part"] (c_n 1 IB rfl rfl) (d_v 0) (fun _ _ _ _ _=>ee) (fun _ _ _ _ _=>(aB (FF T) (Br.hm hr) rfl T.JA T.E_.kp T.Ai (aa (d_v 1) af)))) af)))),bG (n:=1) (m:=0) rfl h⟩
theorem FH :
  aP P' w K mg base CX0 1 pS jx ["ties","side"] (spD vd):=by
 refine T.Fc.ok Nb (fun vs H Q E h=>aK h) (fun cdv A outer s H vs Q E hr h=>?_);exact⟨_,(au (s_r (fO 0 ["ties","side"] ["tie"] (c_n 2 IC rfl rfl) (d_v 0) (fun _ _ _ _ _=>kT (j4 hr (Cg hr (aO (d_v 2) d_i) (d_v 1)) (Cg hr (aO (d_v 2) d_i) (d_v 1)))) (fun _ _ _ _ _=>(aO (d_v 2) d_i))))),bG (n:=2) (m:=0) rfl h⟩
theorem Nz :
  aP P' w K mg base CX0 3 pU jy ["ties","a","b","way"] (spD zT):=by
 refine T.JX.ok lE (fun vs H Q E h=>aK h) (fun cdv A outer s H vs Q E hr h=>?_);exact ⟨_,(aj (cB (t_w (w_or (bS (bM (gu nD (by rfl) rfl T.jD rfl T.aS (d_v 3)))) (w_or (bS (bM (aB (FG T) (Br.hm hr) rfl T.JB T.Fb.kp T.Aj (aa (d_v 3) af)))) (gm (j4 hr (uD rfl rfl T.cX rfl T.EK (d_v 3)) (dO rfl T.cX (aa (d_v 3) af))))))) (au (s_r d_b)) bz)
  (aj (s_a 4 lE.nd OH)
  (aj (gp To rfl (i_S (d_v 0)) (g_n 5 lE.nd)
  (au (xM 4 hr (aO (d_v 5) d_i) (lR (aa (aO (d_v 5) d_i) (aa (aO (d_v 5) d_i) af))))))
  (aj (s_a 6 lE.nd (d_v 1))
  (aj (gp To rfl (i_S (d_v 3)) (g_n 7 lE.nd)
  (aj (cB (t_w (w_or (C1 hr (d_v 7) (d_v 4)) (w_or (Ou hr (d_v 6) (xK hr (d_v 4) (d_v 7))) (gm (uv hr (aO (xK hr (d_v 4) (d_v 7)) d_i) (aO (xK hr (d_v 4) (d_v 7)) d_i)))))) (au (s_r d_b)) bz)
  (au (s_a 6 lE.nd (lQ (LB rfl rfl T.P0 (aa (xK hr (d_v 4) (d_v 7)) af)) (d_v 6))))))
  (au (s_r (AU hr (d_v 6) (d_v 2))))))))),bG (n:=4) (m:=4) rfl h⟩
theorem NB :
  aP P' w K mg base CX0 4 pV jz ["ties","a","b","ways"] (spD zU):=by
 refine T.JY.ok yE (fun vs H Q E h=>aK h) (fun cdv A outer s H vs Q E hr h=>?_);exact ⟨_,(aj (cB (bS (bM (gu nD (by rfl) rfl T.jD rfl T.aS (d_v 3)))) (au (s_r d_b)) bz)
  (aj (s_a 4 yE.nd (fN af))
  (aj (gp To rfl (i_S (d_v 3)) (g_n 5 yE.nd)
  (aj (cB (bS (bM (aB (Nz T) (Br.hm hr) rfl T.Qo T.JX.kp T.Fe (aa (d_v 0) (aa (d_v 1) (aa (d_v 2) (aa (d_v 5) af))))))) (au (s_r d_b)) bz)
  (au (ON 4 (d_v 5)))))
  (au (s_r (AU hr (uD rfl rfl T.cX rfl T.EK (d_v 4)) (dO rfl T.cX (aa (d_v 4) af)))))))),bG (n:=4) (m:=2) rfl h⟩
theorem FJ :
  aP P' w K mg base CX0 3 pW jA ["n","side","a","b"] (spD ve):=by
 refine T.Ff.ok Nc (fun vs H Q E h=>aK h) (fun cdv A outer s H vs Q E hr h=>?_);exact ⟨_,(aj (cB (t_w (w_or (bS (bM (gu kit_tuple (by rfl) rfl T.kF rfl T.aS (d_v 1)))) (w_or (bS (bM (aB (FG T) (Br.hm hr) rfl T.JB T.Fb.kp T.Aj (aa (d_v 1) af)))) (gm (j4 hr (CI rfl T.jD (aa (d_v 1) af)) (Bh rfl rfl T.vK rfl T.EK (d_v 1))))))) (au (s_r d_b)) bz)
  (au (s_r (eU (ze rfl rfl T.z_ (aa (fO 1 ["n","side","a","b"] ["place"] (c_n 4 ID rfl rfl) (d_v 1) (fun _ _ _ _ _=>ee) (fun _ _ _ _ _=>(zd yM y_ B3 CB d_i (d_v 4) (d_v 0)))) af)) (eU (Cg hr (d_v 2) (d_v 1)) (j5 (IX hr (d_v 3) (d_v 1)))))))),bG (n:=4) (m:=0) rfl h⟩
theorem NC :
  aP P' w K mg base CX0 5 pX jB ["n","ties","a","b","j","found"] (spD vf):=by
 refine T.JZ.ok Fx (fun vs H Q E h=>aK h) (fun cdv A outer s H vs Q E hr h=>?_);exact ⟨_,(aj (cB (t_w (w_or (bS (bM (gu kit_tuple (by rfl) rfl T.kF rfl T.aS (d_v 5)))) (gm (Lf (dO rfl T.cX (aa (d_v 5) af)) d_i)))) (au (s_r d_b)) bz)
  (aj (cB (uv hr (aO (d_v 5) d_i) d_s) (au (s_r (eU (AU hr (dO rfl T.cX (aa (d_v 5) af)) d_i) (eU (aB (FJ T) (Br.hm hr) rfl T.JD T.Ff.kp T.Am (aa (d_v 0) (aa (aO (d_v 5) d_i) (aa (d_v 2) (aa (d_v 3) af))))) (j5 (Le (dO rfl T.cX (aa (aB (FH T) (Br.hm hr) rfl T.JC T.Fc.kp T.Al (aa (d_v 1) (aa (aO (d_v 5) d_i) af))) af)) (d_v 4))))))) bz)
  (aj (cB (t_w (w_or (j4 hr (aO (d_v 5) d_i) d_s) (w_or (j4 hr (dO rfl T.cX (aa (d_v 5) af)) d_i) (gm (bS (bM (aB (FF T) (Br.hm hr) rfl T.JA T.E_.kp T.Ai (aa (aO (d_v 5) d_i) af)))))))) (au (s_r d_b)) bz)
  (aj (s_a 6 Fx.nd (aO (d_v 5) d_i))
  (aj (cB (t_w (w_or (bS (bM (aB (NB T) (Br.hm hr) rfl T.Qp T.JY.kp T.Fg (aa (aB (FD T) (Br.hm hr) rfl T.Jz T.E9.kp T.Ak (aa (d_v 1) (aa (d_v 6) af))) (aa (d_v 2) (aa (d_v 3) (aa (aO (d_v 5) d_i) af))))))) (gm (j4 hr (dO rfl T.cX (aa (aO (d_v 5) d_i) af)) (d_v 4))))) (au (s_r d_b)) bz)
  (au (s_r (eU (aB (FJ T) (Br.hm hr) rfl T.JD T.Ff.kp T.Am (aa (d_v 0) (aa (aO (d_v 5) d_i) (aa (d_v 2) (aa (d_v 3) af))))) (j5 (Le (dO rfl T.cX (aa (aB (FH T) (Br.hm hr) rfl T.JC T.Fc.kp T.Al (aa (aB (FD T) (Br.hm hr) rfl T.Jz T.E9.kp T.Ak (aa (d_v 1) (aa (aZ (d_v 6) d_i) af))) (aa (aO (d_v 5) d_i) af))) af)) (d_v 4))))))))))),bG (n:=6) (m:=1) rfl h⟩
theorem ND :
  aP P' w K mg base CX0 2 pY jC ["pool","n","many"] (spM vg):=by
 refine T.J0.ok jF (fun vs H Q E h=>gP h) (fun cdv A outer s H vs Q E hr h=>?_);exact ⟨_,(aj (s_a 3 jF.nd (fN af))
  (aj (s_a 4 jF.nd (aX (bI T) (Br.hm hr) rfl T.cI T.cE.kp T.cy (aa (d_v 0) (aa d_i af))))
  (aj (gp To rfl (AW rfl T.dB (aa (d_v 2) af)) (g_n 5 jF.nd)
  (aj (s_a 6 jF.nd (aX (bI T) (Br.hm hr) rfl T.cI T.cE.kp T.cy (aa (d_v 0) (aa (d_v 1) af))))
  (aj (s_a 7 jF.nd (fM (aZ (aZ (d_v 6) d_i) (aX (bI T) (Br.hm hr) rfl T.cI T.cE.kp T.cy (aa (d_v 0) (aa (lQ (d_v 1) d_i) af)))) (d_v 1)))
  (aj (zb 3 (lR (aa (d_v 4) (aa (sj rfl rfl T.Ab (aa (d_v 6) (aa (d_v 7) af))) (aa (sr rfl rfl T.Aa (aa (d_v 6) (aa (d_v 7) af))) af)))))
  (au (s_a 4 jF.nd (aZ (aZ (d_v 4) d_i) (aX (bI T) (Br.hm hr) rfl T.cI T.cE.kp T.cy (aa (d_v 0) (aa d_i af))))))))))
  (au (s_r (d_v 3)))))),uC (n:=3) (m:=5) rfl h⟩
theorem NF :
  aP P' w K mg base CX0 11 pZ lC ["script"] (spD oB):=by
 refine T.QB.ok bH (fun vs H Q E h=>aK h) (fun cdv A outer s H vs Q E hr h=>?_);exact ⟨_,(aj (gp To rfl (Ru rfl T.dB (aa d_i (aa (sr rfl rfl T.Aa (aa d_i (aa (sj rfl rfl T.Ab (aa (dO rfl T.cX (aa (d_v 0) af)) (aa d_i af))) af))) (aa d_i af)))) (g_n 1 bH.nd)
  (aj (s_a 2 bH.nd (aB (tO T) (Br.hm hr) rfl T.Ad T.vM.kp T.rM (aa (d_v 0) (aa (d_v 1) af))))
  (aj (s_a 3 bH.nd (sr rfl rfl T.Aa (aa d_i (aa (aX (Nx T) (Br.hm hr) rfl T.Qm T.JU.kp T.Fj (aa (d_v 2) af)) af))))
  (aj (s_a 4 bH.nd (aZ d_i (aX (bI T) (Br.hm hr) rfl T.cI T.cE.kp T.cy (aa (d_v 2) (aa d_i af)))))
  (aj (s_a 5 bH.nd (zo (Ny T) (Br.hm hr) rfl T.Qn T.JV.kp T.Fo (aa (aB (tO T) (Br.hm hr) rfl T.Ad T.vM.kp T.rM (aa (d_v 0) (aa (aZ (d_v 1) d_i) af))) (aa (d_v 3) (aa d_i af)))))
  (aj (cB (uv hr (aX (bI T) (Br.hm hr) rfl T.cI T.cE.kp T.cy (aa (d_v 2) (aa d_i af))) d_i) (aj (s_a 3 bH.nd d_i)
  (aj (s_a 4 bH.nd d_i)
  (au (s_a 5 bH.nd (zo (ND T) (Br.hm hr) rfl T.Qs T.J0.kp T.Fq (aa (aB (tO T) (Br.hm hr) rfl T.Ad T.vM.kp T.rM (aa (d_v 0) (aa (aZ (d_v 1) d_i) af))) (aa d_i (aa (aZ d_i (aX (bI T) (Br.hm hr) rfl T.cI T.cE.kp T.cy (aa (d_v 2) (aa d_i af)))) af)))))))) bz)
  (aj (s_a 6 bH.nd (aZ d_i (aX (bI T) (Br.hm hr) rfl T.cI T.cE.kp T.cy (aa (d_v 2) (aa (d_v 4) af)))))
  (aj (s_a 7 bH.nd (aB (Nu T) (Br.hm hr) rfl T.Qk T.JS.kp T.Fi (aa (d_v 3) (aa (d_v 5) (aa (d_v 4) af)))))
  (aj (s_a 8 bH.nd (CI rfl T.jD (aa (aO (d_v 7) d_i) af)))
  (aj (s_a 2 bH.nd (aB (tO T) (Br.hm hr) rfl T.Ad T.vM.kp T.rM (aa (d_v 0) (aa (aZ (d_v 1) d_i) af))))
  (aj (s_a 9 bH.nd (aX (bI T) (Br.hm hr) rfl T.cI T.cE.kp T.cy (aa (d_v 2) (aa (d_v 3) af))))
  (aj (s_a 10 bH.nd (fM (aZ (aZ (d_v 9) d_i) (aX (bI T) (Br.hm hr) rfl T.cI T.cE.kp T.cy (aa (d_v 2) (aa (lQ (d_v 3) d_i) af)))) (d_v 3)))
  (Hz 11 bH.nd (qi T) (Br.hm hr) rfl T.EM T.Ah.kp T.vN (aa (d_v 7) (aa (d_v 9) (aa (d_v 10) (aa (d_v 6) af))))
  (LV (bS (bM (aB (NC T) (Br.hm hr) rfl T.Qq T.JZ.kp T.Fp (@aa _ _ _ _ _ (d_v 3) (@aa _ _ _ _ _ (d_v 8) (@aa _ _ _ _ _ (d_v 9) (@aa _ _ _ _ _ (d_v 10) (@aa _ _ _ _ _ (d_v 6) (@aa _ _ _ _ _ (d_v 11) af rfl) rfl) rfl) rfl) rfl) rfl)))) (au (s_r d_b))
  (m_c (c_a 12 bH.nd (Jm hr rfl T.Jv (aa (d_v 11) af)))
  (m_c (RA (uv hr (aO (d_v 11) d_i) d_s) (LZ (Mf 2 13 bH.nd To rfl)
  (O7 (Pp 2))) O6)
  (LV (t_w (w_or (j4 hr (Jm hr rfl T.Jv (aa (ki (qi T) (Br.hm hr) rfl T.EM T.Ah.kp T.vN (aa (d_v 7) (aa (d_v 9) (aa (d_v 10) (aa (d_v 6) af))))) af)) (d_v 12)) (gm (j4 hr (d_v 7) (lR (aa (d_v 3) (aa (d_v 4) (aa (d_v 8) af)))))))) (au (s_r d_b))
  (LV (j4 hr (DO (DO (ki (qi T) (Br.hm hr) rfl T.EM T.Ah.kp T.vN (aa (d_v 7) (aa (d_v 10) (aa (d_v 9) (aa (d_v 6) af))))) o_n (o_s d_i)) o_n (o_s (aZ d_i (CL rfl T.vJ (aa (AU hr (aO (d_v 11) d_i) d_s) af))))) (DO (d_v 11) o_n (o_s (aZ d_i (CL rfl T.vJ (aa (AU hr (aO (d_v 11) d_i) d_s) af)))))) (au (s_r d_b))
  (O3 bz)))))))))))))))))))
  (au (s_r d_b))),bG (n:=1) (m:=13) rfl h⟩
end
theorem all_mk{l:V2}{w:World}{K:gc}{h:Heap}{mg:Str->Option Value}{fa yl ym yo yp yq yr yt yu yw yz oU oV oW oX oY oZ o6 o7 o8 o9 o_ pq pA pB pC pD pF pG pH pI pJ pK pL pM pN pP pQ pR pS pU pV pW pX pY pZ:Addr}{p5 p6 p7 p8 p9 p_ qc qd qe qf iU iV iW iX iY iZ i0 i6 i7 i8 i9 i_ jb jd je jf jh ji jj jl jm jn jo jq jr jt ju jv jx jy jz jA jB jC lC:FuncData}(X:K.In h)(G:h.Ns mainGlobals mg)(hfa:mg "law" = some (.ref fa))
  {kG:Tok}
  (FL:a_ K "steps_of" (top 3) yl p5)
  (FO:a_ K "free_steps" (top 4) ym p6)
  (FU:a_ K "led_steps" (top 5) yo p7)
  (FW:a_ K "shortest_ways" (top 6) yp p8)
  (FY:a_ K "lead_along" (top 7) yq p9)
  (FZ:a_ K "parted" (top 8) yr p_)
  (F0:a_ K "ways_apart" (top 1) yt qc)
  (F1:a_ K "hang_often" (top 2) yu qd)
  (F2:a_ K "is_whole" (top 15) yw qe)
  (F3:a_ K "is_within" (top 16) yz qf)
  (vS:a_ K "is_places" (top 17) oU iU)
  (vU:a_ K "is_place" (top 18) oV iV)
  (vV:a_ K "is_layers" (top 19) oW iW)
  (vW:a_ K "is_moment" (top 20) oX iX)
  (vX:a_ K "is_tie_either_way" (top 21) oY iY)
  (vY:a_ K "is_tie" (top 22) oZ iZ)
  (vZ:a_ K "is_rising" (top 23) o6 i0)
  (v9:a_ K "is_pair" (top 24) o7 i6)
  (v_:a_ K "look_at_layers" (top 25) o8 i7)
  (wc:a_ K "look_at_pair" (top 26) o9 i8)
  (we:a_ K "merged" (top 28) o_ i9)
  (wg:a_ K "least_layer" (top 31) pq i_)
  (wj:a_ K "layered" (top 30) pA jb)
  (wk:a_ K "is_record" (top 34) pB jd)
  (wo:a_ K "since" (top 35) pC je)
  (wu:a_ K "is_net" (top 37) pD jf)
  (wz:a_ K "look_at_net" (top 38) pF jh)
  (wA:a_ K "look_at_net_layers" (top 39) pG ji)
  (wB:a_ K "net_of" (top 40) pH jj)
  (wC:a_ K "latest" (top 43) pI jl)
  (wD:a_ K "when" (top 42) pJ jm)
  (wF:a_ K "_law_pool" (top 45) pK jn)
  (wG:a_ K "_law_take" (top 46) pL jo)
  (wH:a_ K "_law_many" (top 47) pM jq)
  (wI:a_ K "_law_record" (top 48) pN jr)
  (wJ:a_ K "_law_since" (top 50) pP jt)
  (wK:a_ K "_law_whole" (top 51) pQ ju)
  (wL:a_ K "_law_wholes" (top 52) pR jv)
  (wM:a_ K "_law_rim" (top 53) pS jx)
  (wN:a_ K "_law_leads" (top 54) pU jy)
  (wO:a_ K "_law_lead_all" (top 55) pV jz)
  (wQ:a_ K "_law_is_side" (top 56) pW jA)
  (wR:a_ K "_law_right" (top 57) pX jB)
  (wU:a_ K "_law_thick" (top 58) pY jC)
  (rO:a_ K "law" (top 59) pZ lC)
  (F4:Ti K mainGlobals "all" = some none)
  (yG:Ti K mainGlobals "bool" = some none)
  (yH:Ti K mainGlobals "dict" = some none)
  (gK:Ti K mainGlobals "enumerate" = some none)
  (F5:Ti K mainGlobals "int" = some none)
  (fK:Ti K mainGlobals "isinstance" = some none)
  (F6:Ti K mainGlobals "len" = some none)
  (yI:Ti K mainGlobals "list" = some none)
  (F7:Ti K mainGlobals "max" = some none)
  (F8:Ti K mainGlobals "min" = some none)
  (tP:Ti K mainGlobals "range" = some none)
  (jG:Ti K mainGlobals "reversed" = some none)
  (F9:Ti K mainGlobals "set" = some none)
  (qj:Ti K mainGlobals "sorted" = some none)
  (F_:Ti K mainGlobals "str" = some none)
  (Ga:Ti K mainGlobals "sum" = some none)
  (tQ:Ti K mainGlobals "tuple" = some none)
  (Gb:Ti K mainGlobals "zip" = some none)
  (gM:Ti K mainGlobals "MOST_TIES" = some (some (.int 60 kG))) :
  ∃fd:FuncData,(∀(s:Shared) (v:Value),BindsTo s fd ⟨[v],[]⟩ [("script",v)])/\∀base:Heap,K.In base->base.Ns mainGlobals mg->aP l.prog w K mg base CX0 11 fa fd ["script"] (spD oB):=by
 have e:=hfa.symm.trans (rO.m X G);cases e;have MD:=FL.F.b9 (ps:=["n","ties"]) rfl fun _ _ _ _ _ _ _ _=>rfl;have ME:=FO.F.b9 (ps:=["steps","heads"]) rfl fun _ _ _ _ _ _ _ _=>rfl;have MC:=FU.F.b9 (ps:=["steps","heads"]) rfl fun _ _ _ _ _ _ _ _=>rfl;have Io:=FW.F.b9 (ps:=["steps","a"]) rfl fun _ _ _ _ _ _ _ _=>rfl;have MF:=FY.F.b9 (ps:=["heads","way"]) rfl fun _ _ _ _ _ _ _ _=>rfl;have MG:=FZ.F.sH (ps:=["steps","heads","a","b","count"]) rfl fun _ _ _ _ _ _ _ _ _ _ _=>rfl;have BK:=F0.F.sH (ps:=["n","ties","a","b","most"]) rfl fun _ _ _ _ _ _ _ _ _ _ _=>rfl;have Ip:=F1.F.sH (ps:=["n","ties","a","b","times"]) rfl fun _ _ _ _ _ _ _ _ _ _ _=>rfl;have MI:=F2.F.dR (ps:=["thing"]) rfl fun _ _ _ _ _ _ _=>rfl;have yC:=F3.F.fB (ps:=["thing","low","high"]) rfl fun _ _ _ _ _ _ _ _ _=>rfl;have EY:=vS.F.dR (ps:=["thing"]) rfl fun _ _ _ _ _ _ _=>rfl;have rL:=vU.F.b9 (ps:=["n","thing"]) rfl fun _ _ _ _ _ _ _ _=>rfl;have Ae:=vV.F.dR (ps:=["thing"]) rfl fun _ _ _ _ _ _ _=>rfl;have ER:=vW.F.dR (ps:=["thing"]) rfl fun _ _ _ _ _ _ _=>rfl;have ES:=vX.F.b9 (ps:=["n","thing"]) rfl fun _ _ _ _ _ _ _ _=>rfl;have EZ:=vY.F.b9 (ps:=["n","thing"]) rfl fun _ _ _ _ _ _ _ _=>rfl;have E1:=vZ.F.dR (ps:=["things"]) rfl fun _ _ _ _ _ _ _=>rfl;have ET:=v9.F.fB (ps:=["n","a","b"]) rfl fun _ _ _ _ _ _ _ _ _=>rfl;have EU:=v_.F.dR (ps:=["k"]) rfl fun _ _ _ _ _ _ _=>rfl;have E6:=wc.F.fB (ps:=["n","a","b"]) rfl fun _ _ _ _ _ _ _ _ _=>rfl;have EV:=we.F.fB (ps:=["groups","a","b"]) rfl fun _ _ _ _ _ _ _ _ _=>rfl;have EW:=wg.F.fB (ps:=["layers","a","b"]) rfl fun _ _ _ _ _ _ _ _ _=>rfl;have Af:=wj.F.fB (ps:=["n","record","k"]) rfl fun _ _ _ _ _ _ _ _ _=>rfl;have E3:=wk.F.b9 (ps:=["n","thing"]) rfl fun _ _ _ _ _ _ _ _=>rfl;have Ag:=wo.F.b9 (ps:=["record","t"]) rfl fun _ _ _ _ _ _ _ _=>rfl;have E4:=wu.F.dR (ps:=["thing"]) rfl fun _ _ _ _ _ _ _=>rfl;have E5:=wz.F.dR (ps:=["thing"]) rfl fun _ _ _ _ _ _ _=>rfl;have E7:=wA.F.b9 (ps:=["net","j"]) rfl fun _ _ _ _ _ _ _ _=>rfl;have Fi:=wB.F.fB (ps:=["n","record","k"]) rfl fun _ _ _ _ _ _ _ _ _=>rfl;have E8:=wC.F.sH (ps:=["n","ties","a","b","j"]) rfl fun _ _ _ _ _ _ _ _ _ _ _=>rfl;have vN:=wD.F.sG (ps:=["net","a","b","j"]) rfl fun _ _ _ _ _ _ _ _ _ _=>rfl;have rM:=wF.F.b9 (ps:=["script","k"]) rfl fun _ _ _ _ _ _ _ _=>rfl;have cy:=wG.F.b9 (ps:=["pool","many"]) rfl fun _ _ _ _ _ _ _ _=>rfl;have Fj:=wH.F.dR (ps:=["pool"]) rfl fun _ _ _ _ _ _ _=>rfl;have Fo:=wI.F.fB (ps:=["pool","n","most"]) rfl fun _ _ _ _ _ _ _ _ _=>rfl;have Ak:=wJ.F.b9 (ps:=["record","t"]) rfl fun _ _ _ _ _ _ _ _=>rfl;have Ai:=wK.F.dR (ps:=["thing"]) rfl fun _ _ _ _ _ _ _=>rfl;have Aj:=wL.F.dR (ps:=["thing"]) rfl fun _ _ _ _ _ _ _=>rfl;have Al:=wM.F.b9 (ps:=["ties","side"]) rfl fun _ _ _ _ _ _ _ _=>rfl;have Fe:=wN.F.sG (ps:=["ties","a","b","way"]) rfl fun _ _ _ _ _ _ _ _ _ _=>rfl;have Fg:=wO.F.sG (ps:=["ties","a","b","ways"]) rfl fun _ _ _ _ _ _ _ _ _ _=>rfl;have Am:=wQ.F.sG (ps:=["n","side","a","b"]) rfl fun _ _ _ _ _ _ _ _ _ _=>rfl;have Fp:=wR.F.LN (ps:=["n","ties","a","b","j","found"]) rfl fun _ _ _ _ _ _ _ _ _ _ _ _=>rfl;have Fq:=wU.F.fB (ps:=["pool","n","many"]) rfl fun _ _ _ _ _ _ _ _ _=>rfl;refine⟨_,fun s v=>rO.RI (fun _ _ _ _ _ _ _=>rfl) s v,fun base Xb _=>?_⟩;have T:Txt mg K base ..:=⟨mno X G F4,mno X G yG,mno X G yH,mno X G gK,mno X G F5,mno X G fK,mno X G F6,mno X G yI,mno X G F7,mno X G F8,mno X G tP,mno X G jG,mno X G F9,mno X G qj,mno X G F_,mno X G Ga,mno X G tQ,mno X G Gb,⟨_,mgo X G gM⟩,FL.m X G,FO.m X G,FU.m X G,FW.m X G,FY.m X G,FZ.m X G,F0.m X G,F1.m X G,F2.m X G,F3.m X G,vS.m X G,vU.m X G,vV.m X G,vW.m X G,vX.m X G,vY.m X G,vZ.m X G,v9.m X G,v_.m X G,wc.m X G,we.m X G,wg.m X G,wj.m X G,wk.m X G,wo.m X G,wu.m X G,wz.m X G,wA.m X G,wB.m X G,wC.m X G,wD.m X G,wF.m X G,wG.m X G,wH.m X G,wI.m X G,wJ.m X G,wK.m X G,wL.m X G,wM.m X G,wN.m X G,wO.m X G,wQ.m X G,wR.m X G,wU.m X G,rO.m X G,FL.F,FO.F,FU.F,FW.F,FY.F,MC,Io,FZ.F,MD,ME,MF,MG,F0.F,BK,F1.F,F2.F,MI,F3.F,yC,vS.F,vU.F,vV.F,vW.F,rL,ER,vX.F,ES,vY.F,vZ.F,v9.F,Ae,v_.F,ET,wc.F,we.F,wg.F,EU,EV,EW,wj.F,EY,EZ,E1,wk.F,wo.F,Af,E3,wu.F,E4,wz.F,E5,wA.F,wB.F,Ip,wC.F,E6,Ag,E7,E8,wD.F,wF.F,wG.F,cy,wH.F,wI.F,wJ.F,wK.F,Ai,wL.F,wM.F,Aj,wN.F,Fe,wO.F,wQ.F,Ak,Al,Fg,Am,wR.F,wU.F,Fi,vN,rM,Fj,Fo,Fp,Fq,rO.F⟩
 exact NF T
theorem walk{l:V2}{q:Program}{loose:List Str}{XP:(Str->Option Value)->Heap->Prop}{YP:World->Heap->Prop}{d:DefRec}{K:Params->gc}(hn:l.most=some 63)(hdf:d.params.defaults=[])
  (hY:∀(w:World) (h:Heap),YP w h->(K w.params).In h) (M:∀ns:List Int,ns.length<=63->oB [.lst (ns.map Dat.int)]=some (.val (.bl true))) (hK:∀w:World,CM (K w.params)=true)
  (F:∀ (w:World) (mg:Str→Option Value) (fa:Addr) (h:Heap),(K w.params).In h→h.Ns mainGlobals mg→mg d.name=some (.ref fa) →
   ∃fd:FuncData,(∀(s:Shared) (u:Value),BindsTo s fd ⟨[u],[]⟩ [("script",u)])/\∀base:Heap,(K w.params).In base->base.Ns mainGlobals mg->aP l.prog w (K w.params) mg base CX0 11 fa fd ["script"] (spD oB)) :
  PySem.W.WalkO q loose XP YP l.row.toRowW d [] (fun f vs=>PySem.call f vs):=
 L2.Gx (n:=63) (k:=11) (x := "script") (CX:=fun _=>CX0) (sp:=fun _=>spD oB) hn (by decide) hdf ⟨rfl,by decide,by decide,rfl⟩ hY F
  (fun w H a ns hl hO hS=>Ln (M ns hl) (hK w) hS) fun _ _ _ _ _ z=>z
open PySem PySem.W PySem.W.X
theorem Gd{q:Program}{loose:List Str}{XP:(Str->Option Value)->Heap->Prop}{r:RowW}{d:DefRec}{kwd:List (Str×Expr)}{run:Value->List Value->Sem Value}{K:Params->Frag}{as:List Addr}{n t:Nat}(e:∀P,as=(K P).map (·.1))
  (W:WalkO q loose XP (fun w h=>(K w.params).In h) r d kwd run):WalkX q loose XP (obsZ as) (valZ K n t) r d kwd run:=
 fun w s₀ s₁ mg mb G y a o pm cd doc dV kV ho hd PJ hD hmg hg args vals as' L=>W w s₀ s₁ mg mb G (InK.keeps w _ _ (z_facts e y).2.1 L.keeps) a o pm cd doc dV kV ho hd PJ hD hmg hg args vals as'
end Q
noncomputable def PySem.W.Fast.tw9553779913151199059:PySem.Program:=PySem.Challenge.pw_sinceply_k35_when_told
theorem PySem.W.Fast.te9553779913151199059:PySem.Challenge.pw_sinceply_k35_when_told=PySem.W.Fast.tw9553779913151199059:=rfl
namespace PySem.W.Fast
def tw8457252003874327746:=0
def tw1702673227217317431:=0
def tw9078564089340417877:=0
def tw11583158153587415998:=0
def tw7844192013093345076:=0
def tw450640949117777450:=0
def tw3511964580007380200:=0
def tw12094547959961652779:=0
def tw1557622839792576832:=0
def tw15212804448798266118:=0
def tw1846200488139064265:=0
def tw1615586247948562045:=0
def tw1091289958044559404:=0
def tw14533012157730032080:=0
def tw13603973685496760368:=0
def tw14949798773025454659:=0
def tw207221025236575745:=0
def tw4220712613853184820:=0
def tw8141512863778969258:=0
def tw18257549065720478635:=0
def tw6841677198884385497:=0
def tw12816567293336307964:=0
def tw6911374587546529542:=0
def tw12715719385310284138:=0
def tw707207910908156457:=0
def tw1510019095521248344:=0
def tw2041489695671243947:=0
def tw2407532230377483957:=0
def tw9794084313140298124:=0
def tw16842447741911665995:=0
def tw9843522710693315113:=0
def tw11255818088345045344:=0
def tw4346443507311742090:=0
def tw4107677451986991043:=0
def tw15821202268860225912:=0
def tw15596416392514752503:=0
def tw10502741254383827961:=0
def tw2109342303713576152:=0
def tw614017368983017512:=0
def tw12360467986871271455:=0
def tw16447698936617291089:=0
def tw1162827836580578159:=0
def tw8995837747123917536:=0
def tw4398658730151558848:=0
def tw6116690517206548128:=0
def tw17675316324492782834:=0
def tw5103127596676124521:=0
def tw4242959282103741823:=0
def tw7425280839617060695:=0
def tw150910610735261382:=0
def tw4925519788716780450:=0
def tw513413772794068889:=0
def tw14413293328890995744:=0
def tw1671276849838381691:=0
def tw9506711744142826606:=0
def tw5032225365832665566:=0
def tw12591860131355249895:=0
def tw13401183458449789495:=0
def tw9580708336729360408:=0
def tw7456177182583501776:=0
def tw8539775111979526474:=0
def tw5368656174938096251:=0
def tw7048736700146631540:=0
def tw917878824030678198:=0
def tw7187264498373722877:=0
def tw2332388495362183526:=0
def tw2403471294071362988:=0
def tw909937898314946655:=0
def tw9869463159854163263:=0
def tw17272817268011076736:=0
def tw17624245976785527249:=0
def tw1592233925344816820:=0
def tw12550096365882458820:=0
def tw18332040096463966220:=0
def tw6963198159512205111:=0
def tw9607966565882649650:=0
def tw8877344614739070726:=0
def tw10129915588265323644:=0
def tw15284141607746672851:=0
def tw899465939113221360:=0
def tw5809225429099972911:=0
def tw6535379027122311091:=0
def tw9462850472175564395:=0
def tw5111820638349443502:=0
def tw8489539644731819153:=0
def tw15492918383909257412:=0
def tw2688851821262113799:=0
def tw12573876250541556938:=0
def tw15910278273809001110:=0
def tw13457248357855498894:=0
def tw7386424329986709078:=0
def tw14920952703091991215:=0
def tw5815829525709756834:=0
def tw3059223021046463423:=0
def tw15147105561718467321:=0
def tw5098164082272050301:=0
def tw13226628215433028935:=0
def tw12485363510643170699:=0
def tw12805417252432764351:=0
def tw89024227735901285:=0
def tw7807195244070597443:=0
def tw12214577073326646535:=0
def tw10509158190461604245:=0
def tw2444829186106824347:=0
def tw401185764159697823:=0
def tw16088780454567107471:=0
def tw10557477899286567095:=0
def tw17480436955799418688:=0
def tw6393063436292664658:=0
def tw9758573557148725353:=0
def tw12112237838985566300:=0
def tw8128198476694708873:=0
def tw12027334368868598100:=0
def tw14695523551199989493:=0
def tw4144395099534378102:=0
def tw15611637415396844890:=0
def tw11007147109295615647:=0
def tw11048361609321374654:=0
def tw6686086005633580372:=0
def tw4319882759673280883:=0
def tw5320905340930747673:=0
def tw13030662028959647296:=0
def tw15786864244944347212:=0
def tw8964641077641887983:=0
def tw6630015009534864194:=0
def tw2557748123474954696:=0
def tw2938801851108306060:=0
def tw7311907991700062542:=0
def tw13450809594125417972:=0
def tw11182744668597181103:=0
def tw3898508815738090653:=0
def tw9178600754975389676:=0
def tw4081569788251835399:=0
def tw2428428862838753256:=0
def tw15650389665272809342:=0
def tw1114044351329620427:=0
def tw2456685301374419238:=0
def tw10585153100873102593:=0
def tw10961137401752399376:=0
def tw7049826936041961098:=0
def tw8640896116673861177:=0
def tw17894741171117341287:=0
def tw8313862369379756198:=0
def tw5511787337198455074:=0
def tw9884742229826335002:=0
def tw13303417033582927557:=0
def tw7434750807505079269:=0
def tw9235028684554068446:=0
def tw6811842190025070004:=0
def tw15497780901998238713:=0
def tw4066962263931578846:=0
def tw14037741099968479690:=0
def tw1300671865454584103:=0
def tw5920667555708428099:=0
def tw16775031922439106654:=0
def tw10213339993361072479:=0
def tw1317507542090338172:=0
def tw2386812982029025507:=0
def tw6002294211283700086:=0
def tw9503577228315211321:=0
def tw1960602726014447345:=0
def tw4582900203853014027:=0
def tw7583491061158289234:=0
def tw9311098139850140982:=0
def tw3314659786275176013:=0
def tw15713715884143642487:=0
def tw196585055382569584:=0
def tw11597589640153229220:=0
def tw2984533299789615682:=0
def tw17764058057093506045:=0
def tw10353382898834264438:=0
def tw13474644705492115811:=0
def tw7080630484085203628:=0
def tw5842997898972677493:=0
def tw13315811691473839414:=0
def tw4249840513446615322:=0
def tw4724005676299535247:=0
def tw10118137672950272764:=0
def tw4050154267353316954:=0
def tw15225018719631364978:=0
def tw9018371335359839840:=0
def tw4516883902934477715:=0
def tw11826154109315685642:=0
def tw7712567982060547490:=0
def tw12713527668308424144:=0
def tw11084465634499278741:=0
def tw7027453665436865894:=0
def tw2055855792715912999:=0
def tw10972305999551104159:=0
def tw2538308431131423624:=0
def tw2769003135252482304:=0
def tw8871915116520672144:=0
def tw13609551344620597142:=0
def tw7219194367177661327:=0
def tw17952477964326490657:=0
def tw13099881730295522146:=0
def tw4569762463803438566:=0
def tw9111224856673076303:=0
def tw17604795275414522346:=0
def tw7272022139847986898:=0
def tw14786984986676908917:=0
def tw13774474635276647365:=0
def tw14252118003946223649:=0
def tw636386743315667331:=0
def tw3951181763605291011:=0
def tw4978860453897564816:=0
def tw14564585784122059390:=0
def tw14287820476949409790:=0
def tw8329342148276158430:=0
def tw8895186592841786856:=0
def tw8903826209235834141:=0
def tw13116036783876058304:=0
def tw6934931217242440609:=0
def tw15977819931949650139:=0
def tw5658997851683152323:=0
def tw12821117967334578146:=0
def tw3052166707267223534:=0
def tw4444394651770618000:=0
def tw10080814214625411191:=0
def tw7579434268651866750:=0
def tw1353461523640177173:=0
def tw14332265613581614602:=0
def tw10306922815426827769:=0
def tw1646026454890279844:=0
def tw10810882794881491577:=0
def tw13715019280281474438:=0
def tw9526497936651762497:=0
def tw16157782997947030200:=0
def tw1162416590743588099:=0
def tw9461011537453392120:=0
def tw1707178022565442898:=0
def tw324420230801028978:=0
def tw3359419712310608582:=0
def tw5594011766729585504:=0
def tw5564092062165821417:=0
def tw14352416090257707045:=0
def tw87059410811280587:=0
def tw17082405684344710755:=0
def tw16356178414700221834:=0
def tw6665952319667566137:=0
def tw1793037712772323606:=0
def tw827556375505620786:=0
def tw1456493844143284331:=0
def tw14042600279943083230:=0
def tw17788618928405934565:=0
def tw4014974099107080999:=0
def tw1399913083574928360:=0
def tw7727043575113187386:=0
def tw14846656784917969093:=0
def tw16312690161696668271:=0
def tw11675354295024979285:=0
def tw3947732052382908851:=0
def tw8928715719014874921:=0
def tw14741564745084837212:=0
def tw15319078240722494354:=0
def tw17475961620813614088:=0
def tw18093039685216452469:=0
def tw18021956514945850753:=0
def tw12095135805695601326:=0
def tw17777088513190592213:=0
def tw14484979211263858924:=0
def tw4166733681214615253:=0
def tw1679492923884735949:=0
def tw17450406950756005513:=0
def tw820474937769985378:=0
def tw10062292518619699343:=0
def tw9952251534296019828:=0
def tw9835917661488601133:=0
def tw3276272450463981542:=0
def tw6343790006203169573:=0
def tw2793410866099966801:=0
def tw14372261386770785505:=0
def tw3042074487100299777:=0
def tw7986068043403577803:=0
def tw1085690155802597095:=0
def tw9909801342796802158:=0
def tw9273962399014131086:=0
def tw3209644241127460787:=0
def tw1558481094416772341:=0
def tw2644736914283197161:=0
def tw17376699591782511351:=0
def tw779927751287258109:=0
def tw11165194312930562599:=0
def tw607729110834726906:=0
def tw12857837051661551302:=0
def tw6666397598256039618:=0
def tw11893796811154605812:=0
def tw716761407240122304:=0
def tw3025900680843816767:=0
def tw26013607787003490:=0
def tw5872763717230697703:=0
def tw3643398241087429676:=0
def tw10647289712342867179:=0
def tw1301738899287748393:=0
def tw4393081926136185098:=0
def tw11103414384466012608:=0
def tw8376632922572551885:=0
def tw4379263450850574967:=0
def tw6422371012659334709:=0
def tw13150455656622667692:=0
def tw13488222366918464871:=0
def tw2922545668048606107:=0
def tw611221098279131082:=0
def tw12402479062375136670:=0
def tw16651280938407954262:=0
def tw2225755163963405425:=0
def tw15807005289534626521:=0
def tw12035900798036014194:=0
def tw4171686588080221599:=0
def tw6582181412170586400:=0
def tw7128317389543084359:=0
def tw5299704346606192032:=0
def tw5130577132273238218:=0
def tw7011024818492980258:=0
def tw6667989632968620477:=0
def tw9672362458412185318:=0
def tw6474808948521279604:=0
def tw8715403640547094704:=0
def tw12866209161227332199:=0
def tw16503581665533961311:=0
def tw12613680933364608303:=0
def tw16910870742701756830:=0
def tw3454073858477286974:=0
def tw16832819096240816633:=0
def tw1701456646251248917:=0
end PySem.W.Fast
open PySem PySem.W PyProof.Rows
set_option maxRecDepth 100000 in
set_option maxHeartbeats 0 in
theorem PySem.Challenge.cw_sinceply_k35_when_told_holds : PySem.Challenge.rw_sinceply_k35_when_told.Holds := by
 w_on;o_law;z_head;(case hw=>w_witness2)
 k_fill
 refine' Q.Gd (fun _=>rfl) (Q.walk (l:=PySem.Challenge.rw_sinceply_k35_when_told) rfl rfl (fun w h Y=>Y) P.math ?noL ?fnS)
 case noL=>intro w;rfl
 case fnS=>
  intro w mg fa h KX G hmg
  refine' Q.all_mk KX G hmg ?FL ?FO ?FU ?FW ?FY ?FZ ?F0 ?F1 ?F2 ?F3 ?vS ?vU ?vV ?vW ?vX ?vY ?vZ ?v9 ?v_ ?wc ?we ?wg ?wj ?wk ?wo ?wu ?wz ?wA ?wB ?wC ?wD ?wF ?wG ?wH ?wI ?wJ ?wK ?wL ?wM ?wN ?wO ?wQ ?wR ?wU ?rO ?F4 ?yG ?yH ?gK ?F5 ?fK ?F6 ?yI ?F7 ?F8 ?tP ?jG ?F9 ?qj ?F_ ?Ga ?tQ ?Gb ?gM
  case FL|FO|FU|FW|FY|FZ|F0|F1|F2|F3|vS|vU|vV|vW|vX|vY|vZ|v9|v_|wc|we|wg|wj|wk|wo|wu|wz|wA|wB|wC|wD|wF|wG|wH|wI|wJ|wK|wL|wM|wN|wO|wQ|wR|wU|rO=>refine' Br.aE ?e ?l ?c ?k;(case e=>k_is);(case l=>k_is);(case c=>k_is);(case k=>k_is)
  case F4|yG|yH|gK|F5|fK|F6|yI|F7|F8|tP|jG|F9|qj|F_|Ga|tQ|Gb|gM=>k_is
end
