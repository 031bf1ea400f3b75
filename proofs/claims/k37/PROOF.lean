import PyProof.Rows.All
import Wide.All
import OpenK.AllK
import Wide.FinOn
import Lean
import PyProof.EqAt
import PyProof.EqKinds
import PyProof.TupleCall
import KE.KRevIter
import PyProof.EnumMake
import PyProof.EnumFor
import PyProof.ListRange
import PyProof.Rows.Range3
import PyProof.ZipIter
import PyProof.SumWalk
import PyProof.WalksMore
import PyProof.Rows.SetFrom
import PyProof.SetRoads
import PyProof.Rows.SortRunsK
import PyProof.Rows.SortWalk
import KE.KSortTup
import PyProof.Rows.Own
import PyProof.StationsW
import OpenK.KRaise
import KE.KIsAll
import PyProof.ExcArgsOwn
import PyProof.RulesAs
import PyProof.Ns1
import PyProof.Rows.Catch
import OpenK.KOwn
import PyProof.ExcBaseAll.ValueError
import KE.KDictSum
import PyProof.AttrMiss
import PyProof.IsiH_list
import KE.KDictOf
import PyProof.DictList
import KE.KDictList
import PyProof.FactsAll.set
import PyProof.Rows.TupAdd
import KE.KDictMeth
import PyProof.DictWalks
import PyProof.TupleKey
import PyProof.DictStraight
import PyProof.IsRules
import KE.KRevSl
import PyProof.Rows.CallKwBuiltin
import PyProof.Rows.SortShell
import PySem.Challenge.RW_sinceply_k37_times_refused
open Array renaming getElem?_toList→UE,length_toList→UL,find?_toList→Vd
open Bool renaming and_eq_true→Td,false_ne_true→Tf,false_eq_true→Ub,eq_iff_iff→VA
open Decidable renaming byContradiction→UO
open False renaming elim→SQ
open ForInStep renaming yield→Ug
open Int renaming toNat_natCast→Vr,zero_add→VH,le_refl→VM,add_mul→VN
open List renaming getElem?_set_ne→eg,map_cons→Dk,replicate→Dp,getElem?_eq_some_iff→Sw,length_map→Sx,mem_cons_self→Sy,mem_cons_of_mem→SA,size_toArray→SE,getElem?_append_left→SG,mem_cons→SH,getElem?_eq_getElem→SI,length_append→SK,getElem?_map→SM,range→SR,getElem?_set_self→SS,mem_singleton→SV,getElem?_append_right→SW,nodup_cons→S1,length_set→S3,length_range→S6,mem_map→S7,getElem?_replicate→S8,mem_append_right→S9,getElem?_eq_none→Tc,mem_append→Te,map_append→Tg,mem_append_left→To,length_cons→Tt,lookup_cons→Tu,getD_eq_getElem?_getD→Tv,append_nil→Tz,filter_cons_of_neg→TF,filter_cons_of_pos→TH,find?_cons→TL,length_singleton→TQ,all_eq_true→TR,cons_append→TU,mem_range→TX,getElem?_cons_succ→TZ,flatten_cons→T4,replicate_succ→T5,length_reverse→T6,map_map→T7,not_mem_nil→T9,pairwise_cons→Uc,drop_eq_getElem_cons→Ud,mem_of_getElem?→Ue,nodup_append→Uh,any_cons→Ui,getElem?_range→Uk,length_take→Ul,mem_filter→Ur,length_replicate→Us,nil_append→Ut,getElem?_set→Uu,getElem?_take_of_lt→Uy,set_append_right→UG,drop_length→UJ,mem_filterMap→UQ,length_eq_zero_iff→UX,filter_cons→U0,getElem?_reverse→U3,map_nil→U5,filterMap_cons→U7,map_congr_left→U9,map_id→Vc,findIdx?_cons→Vg,find?_eq_none→Vh,zip_cons_cons→Vi,append_assoc→Vm,reverse_cons→Vo,ext_getElem?→Vp,getElem_mem→Vt,of_mem_zip→Vy,take_left→VD,all_cons→VG,foldl→VP
open Nat renaming le_refl→Sz,le_of_ble_eq_true→SJ,lt_of_lt_of_le→SN,ne_of_lt→S0,zero_le→Ti,le_trans→Tn,lt_irrefl→Tq,ne_of_gt→Ux,not_lt→UI,lt_of_le_of_lt→UR,le_of_lt→U4,lt_succ_of_lt→Vq,lt_succ_self→Vs,le_succ→VB,sub_self→VI
open Option renaming isSome_iff_exists→Th,isSome_map→UD,isSome_some→Vf
open PyProof.Rows renaming callWith_type1→Tj,boot_isinstance→Um,OwnCls→Va
open PySem.Builtin.Int renaming intBits→U8
open PySem.Builtin.List renaming listExtendWith→Uq,listTooLong→Uz
open PySem.Calls renaming spliced_nil→T3,callWith_builtin→Up,spliced_cons→UC,evalArgs_plain→UH
open PySem.Data renaming cell→Vx,fields→VJ
open PySem.F renaming plainAttrs_list→Uj,plain_min_loop→UA,plainAttrs_dict→UB,excBase_ValueError→UK,slot_list_append→US,type_list_append→UT,slot_dict_get→U1
open PySem.Heap renaming get?_push_of_some→PU,lt_size→SD,get?_push_size→SY,get?_update_other→TM,get?_update_self→Ua,size_push→Uw,SameBut→UP
open PySem.NameKind renaming cell→VF
open PySem.Obj renaming dropNameByArray→UM,mapSeq→UW,dropName_eq→U6
open PySem.PassesOwn renaming never→Tp
open PySem.PyData renaming eqv→TY,depthAll→UN,eqvAll→Vj,canLayAll0→Vn
open PySem.Value renaming ref→S4,type→UU,builtin→Vk,str→Vu,none→VE,isStr→VL,bool→VO
open PySem.W renaming Frag→gV,kitOne→SO,nsIn→S2,fnOf→S5,keepIn→Tw,kia_one→TJ,findIn→TN,mroIn→TV,kitAny→Uo,codeIn→Uv,clsIn→UY,excIn→UZ,callWith_K→Ve,methodObj→Vl,instObj→Vv,hideAll→Vw,OpenLaw→Vz,lookIn→VC
open Sum renaming inl→SX,inr→Vb
open True renaming intro→T8
noncomputable section
set_option Elab.async false
set_option linter.all false

set_option maxRecDepth 100000
local macro_rules|`(tactic|trivial)=>`(tactic|first|exact Or.inl rfl|exact Or.inr rfl|exact Or.inr (Or.inl rfl)|exact Or.inr (Or.inr rfl)|assumption)
local macro_rules|`(tactic|and_intros)=>`(tactic|dsimp only[List.map,List.replicate,List.cons_append,List.nil_append])
namespace L2
open PySem PySem.Spec PyProof.Rows
noncomputable abbrev Key:=Sum Int Str
noncomputable def tu:Key->Value->Bool
 |.inl k,v=>Value.isInt k v
 |.inr x,v=>Value.isStrOf x v
noncomputable def Q8(w:World):Key->Int
 |.inl k=>hashInt k
 |.inr x=>hashStr w x
theorem bV:∀{k:Key} {v:Value},tu k v=true->(∃i t,k=SX i/\v=Value.int i t)\/(∃x t,k=Vb x/\v=Vu x t)
 |.inl i,v,h=>by obtain⟨t,e⟩:=Value.isInt_shape (k:=i) (v:=v) h;exact .inl ⟨i,t,rfl,e⟩
 |.inr x,v,h=>by obtain⟨t,e⟩:=Value.isStrOf_shape (x:=x) (v:=v) h;exact .inr ⟨x,t,rfl,e⟩
theorem A7(i:Int)(t:Tok):tu (.inl i) (.int i t)=true:=by simp[tu,Value.isInt]
theorem A8(x:Str)(t:Tok):tu (.inr x) (.str x t)=true:=by simp[tu,Value.isStrOf]
theorem KN(a b:Int):decide ((SX a:Key)=SX b)=(a == b):=by
 by_cases e:a=b
 ·subst e;simp
 ·have h:¬(SX a:Key)=SX b:=fun q=>e (Sum.inl.inj q);rw[decide_eq_false h];exact(beq_eq_false_iff_ne.mpr e).symm
theorem KP(a b:Str):decide ((Vb a:Key)=Vb b)=decide (a=b):=by
 by_cases e:a=b
 ·subst e;simp
 ·have h:¬(Vb a:Key)=Vb b:=fun q=>e (Vb.inj q);rw[decide_eq_false h,decide_eq_false e]
theorem KQ(a:Int)(b:Str):decide ((SX a:Key)=Vb b)=false:=decide_eq_false (fun q=>nomatch q)
theorem KR(a:Str)(b:Int):decide ((Vb a:Key)=SX b)=false:=decide_eq_false (fun q=>nomatch q)
noncomputable def a_(prog:Program)(w:World):PySem.KeyKind prog w Key where
 is:=tu
 hash:=Q8 w
 inj:=fun v a b ha hb=>by
  rcases bV ha with⟨i,t,rfl,rfl⟩ | ⟨x,t,rfl,rfl⟩
  ·rcases bV hb with⟨j,u,rfl,e⟩ | ⟨y,u,rfl,e⟩
   ·injection e with e1 _;rw[e1]
   ·exact nomatch e
  ·rcases bV hb with⟨j,u,rfl,e⟩ | ⟨y,u,rfl,e⟩
   ·exact nomatch e
   ·injection e with e1 _;rw[e1]
 byValue:=fun k v h=>by rcases bV h with⟨i,t,rfl,rfl⟩ | ⟨x,t,rfl,rfl⟩<;>rfl
 pyHash:=fun hv h=>by
  rcases bV hv with⟨i,t,rfl,rfl⟩ | ⟨x,t,rfl,rfl⟩
  ·exact wpAny_pyHash_int h
  ·exact wpAny_pyHash_str h
 eqBool:=fun hu hv h=>by
  rcases bV hu with⟨i,t,rfl,rfl⟩ | ⟨x,t,rfl,rfl⟩
  ·rcases bV hv with⟨j,u,rfl,rfl⟩ | ⟨y,u,rfl,rfl⟩
   ·rw[KN]at h;exact wpAny_eqBool_int h
   ·rw[KQ]at h;exact SeqAt.EqAt.int_str i t y u _ _ _ _ h
  ·rcases bV hv with⟨j,u,rfl,rfl⟩ | ⟨y,u,rfl,rfl⟩
   ·rw[KR]at h;exact SeqAt.EqAt.str_int x t j u _ _ _ _ h
   ·rw[KP]at h;exact wpAny_eqBool_str h
 «strs»:=fun k x t v h=>by
  rcases bV h with⟨i,u,rfl,e⟩ | ⟨y,u,rfl,e⟩
  ·exact nomatch e
  ·injection e with e1 _
   subst e1;cases v<;>rfl
theorem vM(prog:Program)(w:World)(i:Int)(t:Tok):(a_ prog w).is (.inl i) (.int i t)=true:=A7 i t
theorem vN(prog:Program)(w:World)(x:Str)(t:Tok):(a_ prog w).is (.inr x) (.str x t)=true:=A8 x t
inductive V where
 |non | bl (b:Bool) | int (i:Int) | str (x:Str) | byt (b:Array UInt8) | flt (b:UInt64) | ref (a:Addr) | ty (n:String)
 deriving DecidableEq
noncomputable def RelV:V->Value->Prop
 |.non,u=>u=VE
 |.bl b,u=>u=VO b
 |.int i,u=>∃t,u=Value.int i t
 |.str x,u=>∃t,u=Vu x t
 |.byt b,u=>∃t,u=Value.bytes b t
 |.flt b,u=>∃t,u=Value.float b t
 |.ref a,u=>u=S4 a
 |.ty n,u=>u=UU n
noncomputable abbrev Vals:List V->List Value->Prop:=Paired RelV
theorem Vals.length{xs:List V}{us:List Value}(r:Vals xs us):xs.length=us.length:=Paired.length r
theorem Vals.get:∀{xs:List V} {us:List Value} {i:Nat} {x:V},Vals xs us->xs[i]?=some x->∃u,us[i]?=some u/\RelV x u
 |_,_,_,_,.nil,e=>by simp at e
 |_,_,0,_,.cons r _,e=>by simp at e;subst e;exact⟨_,rfl,r⟩
 |_,_,i+1,x,.cons _ t,e=>by obtain⟨u,h1,h2⟩:=Vals.get (i:=i) (x:=x) t (by simpa using e);exact⟨u,by simpa using h1,h2⟩
theorem Vals.set{x:V}{u:Value}(r:RelV x u):∀{xs:List V} {us:List Value} (i:Nat),Vals xs us->Vals (xs.set i x) (us.set i u)
 |_,_,_,.nil=>.nil
 |_,_,0,.cons _ t=>.cons r t
 |_,_,i+1,.cons q t=>.cons q (Vals.set r i t)
theorem Vals.append:∀{xs ys:List V} {us ws:List Value},Vals xs us->Vals ys ws->Vals (xs++ys) (us++ws)
 |_,_,_,_,.nil,s=>s
 |_,_,_,_,.cons r t,s=>.cons r (Vals.append t s)
theorem Vals.take:∀{xs:List V} {us:List Value} (n:Nat),Vals xs us->Vals (xs.take n) (us.take n)
 |_,_,0,_=>.nil
 |_,_,_+1,.nil=>.nil
 |_,_,n+1,.cons r t=>.cons r (Vals.take n t)
theorem Vals.drop:∀{xs:List V} {us:List Value} (n:Nat),Vals xs us->Vals (xs.drop n) (us.drop n)
 |_,_,0,r=>r
 |_,_,_+1,.nil=>.nil
 |_,_,n+1,.cons _ t=>Vals.drop n t
noncomputable def lQ:Option V->Option Value->Prop
 |some v,some u=>RelV v u
 |none,none=>True
 |_,_=>False
noncomputable def KV{κ:Type}:List (κ×V)->List (κ×Value)->Prop:=Paired fun(p:κ×V) (q:κ×Value)=>p.1=q.1/\RelV p.2 q.2
noncomputable def kV:Key->V
 |.inl i=>.int i
 |.inr x=>.str x
inductive HO where
 |lst (xs:List V)
 |tup (xs:List V)
 |dK (kvs:List (Key×V)) | dT (kvs:List (List Key×V))
 |set (S:Int->Bool) (n:Nat)
 |ins (C dx:Addr) (fs:List (Str×V))
 |own (x:Addr)
 |xd (fs:List (Str×V))
 |met (f x:Addr)
 |rng (lo hi:Int)
 |frz (o:Obj) (u:HO)
 |tbl (ps:Array Value)
 |ext (φ:Heap->Prop)
noncomputable abbrev Hp:=Addr->Option HO
noncomputable def upd(H:Hp)(a:Addr)(o:HO):Hp:=fun b=>if b=a then some o else H b
theorem au{H:Hp}{a:Addr}{o:HO}:upd H a o a=some o:=by unfold upd;rw[if_pos rfl]
theorem aj{H:Hp}{a b:Addr}{o:HO}(h:b≠a):upd H a o b=H b:=by unfold upd;rw[if_neg h]
theorem N8{H:Hp}{a b:Addr}{o u:HO}(h:H a=some o)(h':H b=some u)(d:o≠u):a≠b:=by intro e;subst e;rw[h]at h';exact d (Option.some.inj h')
theorem aO{H:Hp}{a b:Addr}{o:HO}(h:H a=some o)(h':H b=none):a≠b:=by intro e;subst e;rw[h]at h';cases h'
section
variable(P:Program)(w:World)
noncomputable def br(H:Hp)(h:Heap)(a:Addr):HO->Prop
 |.lst xs=>xs.length<=sizeLine/\∃(its:List Value) (n:Nat),Vals xs its/\h.get? a=some { cls:=.type "list",data:=.seq its.toArray n }
 |.tup xs=>xs.length<=sizeLine/\∃its:List Value,Vals xs its/\IsTup h a its.toArray
 |.dK kvs=>kvs.length<=sizeLine/\(a == sysModules)=false/\∃vs,KV kvs vs/\h.DictOf (a_ P w) a vs
 |.dT kvs=>kvs.length<=sizeLine/\(a == sysModules)=false/\∃xs:List (List Key×Addr×Value),
   Paired (fun(p:List Key×V) (q:List Key×Addr×Value)=>p.1=q.1/\H q.2.1=some (.tup (p.1.map kV))/\RelV p.2 q.2.2) kvs xs /\
   ∃o es ep,h.get? a=some o/\o.ExactDict/\o.data=.dict es ep/\es.toList=xs.map (entryOfKey (tupleKind (a_ P w)))/\(xs.map (·.1)).Nodup
 |.set S n=>h.SetOf (intKind P w) a S n
 |.ins C dx fs=>H dx=some (.own a)/\fs.length<=1000/\dx≠a/\h.get? a=some (Vv C dx) /\
   ∃mA,h.Ns1 dx mA/\(∀f,lQ (fs.lookup f) (mA f))/\PySem.Within mA (fs.map (·.1))
 |.own _=>∃o,h.get? a=some o
 |.xd fs=>∃mA,h.Ns1 a mA/\∀f,lQ (fs.lookup f) (mA f)
 |.rng lo hi=>∃t u v,h.get? a=some { cls:=.type "range",data:=.fields #[.int lo t,.int hi u,.int 1 v] }
 |.frz o u=>h.get? a=some o/\br H h a u
 |.tbl ps=>h.get? a=some { cls:=.none,data:=.fields ps }
 |.met f x=>h.get? a=some (Vl (.ref f) (.ref x))
 |.ext φ=>φ h/\(∃o,h.get? a=some o)/\∀h1 h2:Heap,φ h1->(∀o,h1.get? a=some o->h2.get? a=some o)->φ h2
noncomputable def HOk(H:Hp)(h:Heap):Prop:=∀a o,H a=some o->br P w H h a o
end
section
variable{P:Program}{w:World}{H H':Hp}{h h':Heap}{a:Addr}{o:HO}
theorem br.lt(x:br P w H h a o):a<h.objs.size:=by
 cases o with
 |lst xs=>obtain⟨_,_,_,_,e⟩:=x;exact SD e
 |tup xs=>obtain⟨_,_,_,p⟩:=x;exact p.lt
 |dK kvs=>obtain⟨_,_,_,_,o,_,_,e,_⟩:=x;exact SD e
 |dT kvs=>obtain⟨_,_,_,_,o,_,_,e,_⟩:=x;exact SD e
 |set S n=>obtain⟨o,_,_,_,e,_⟩:=x;exact SD e
 |ins C dx fs=>obtain⟨_,_,_,e,_⟩:=x;exact SD e
 |own y=>obtain⟨_,e⟩:=x;exact SD e
 |xd fs=>obtain⟨_,⟨_,_,_,e,_⟩,_⟩:=x;exact SD e
 |rng lo hi=>obtain⟨_,_,_,e⟩:=x;exact SD e
 |frz ob u=>obtain⟨e,_⟩:=x;exact SD e
 |tbl ps=>exact SD (show h.get? a=some _ from x)
 |met f y=>exact SD (show h.get? a=some _ from x)
 |ext φ=>obtain⟨_,⟨_,e⟩,_⟩:=x;exact SD e
theorem Paired.KS{α β:Type}{F G:α->β->Prop}:∀{l₁:List α} {l₂:List β},Paired F l₁ l₂->(∀a b,F a b->G a b)->Paired G l₁ l₂
 |_,_,.nil,_=>.nil
 |_,_,.cons r t,f=>.cons (f _ _ r) (Paired.KS t f)
theorem br.stay(x:br P w H h a o)(k:∀b u,(b=a\/H b=some (.own a))->h.get? b=some u->h'.get? b=some u)
  (ho:∀b,H b=some (.own a)->H' b=some (.own a)) (ht:∀b xs,H b=some (.tup xs)->H' b=some (.tup xs)):br P w H' h' a o:=by
 induction o with
 |lst xs=>obtain⟨z,its,n,r,e⟩:=x;exact⟨z,its,n,r,k _ _ (.inl rfl) e⟩
 |tup xs=>obtain⟨z,its,r,ob,e,c⟩:=x;exact⟨z,its,r,ob,k _ _ (.inl rfl) e,c⟩
 |dK kvs=>obtain⟨z,y,vs,r,ob,es,ep,e,c⟩:=x;exact⟨z,y,vs,r,ob,es,ep,k _ _ (.inl rfl) e,c⟩
 |dT kvs=>obtain⟨z,y,xs,r,ob,es,ep,e,c⟩:=x;exact⟨z,y,xs,Paired.KS r fun p q z=>⟨z.1,ht _ _ z.2.1,z.2.2⟩,ob,es,ep,k _ _ (.inl rfl) e,c⟩
 |set S n=>obtain⟨ob,es,ep,t,e,c⟩:=x;exact⟨ob,es,ep,t,k _ _ (.inl rfl) e,c⟩
 |ins C dx fs=>obtain⟨d,z,ne,e,mA,⟨od,es,ep,e2,c⟩,r⟩:=x;exact⟨ho _ d,z,ne,k _ _ (.inl rfl) e,mA,⟨od,es,ep,k _ _ (.inr d) e2,c⟩,r⟩
 |own y=>obtain⟨ob,e⟩:=x;exact⟨ob,k _ _ (.inl rfl) e⟩
 |xd fs=>obtain⟨mA,⟨od,es,ep,e,c⟩,r⟩:=x;exact⟨mA,⟨od,es,ep,k _ _ (.inl rfl) e,c⟩,r⟩
 |rng lo hi=>obtain⟨t,u,v,e⟩:=x;exact⟨t,u,v,k _ _ (.inl rfl) e⟩
 |frz ob u ih=>obtain⟨e,q⟩:=x;exact⟨k _ _ (.inl rfl) e,ih q⟩
 |tbl ps=>have e:h.get? a=some { cls:=.none,data:=.fields ps }:=x;show h'.get? a=some { cls:=.none,data:=.fields ps };exact k a _ (.inl rfl) e
 |met f y=>have e:h.get? a=some (Vl (.ref f) (.ref y)):=x;show h'.get? a=some (Vl (.ref f) (.ref y));exact k a _ (.inl rfl) e
 |ext φ=>obtain⟨p,⟨o,e⟩,st⟩:=x;exact⟨st _ _ p fun o q=>k _ _ (.inl rfl) q,⟨o,k _ _ (.inl rfl) e⟩,st⟩
theorem HOk.lt(x:HOk P w H h)(e:H a=some o):a<h.objs.size:=(x a o e).lt
theorem HOk.fresh(x:HOk P w H h)(e:h.objs.size<=a):H a=none:=by
 cases q:H a with
 |none=>rfl
 |some u=>exact absurd (SN (x.lt q) e) (Tq _)
theorem HOk.kept(x:HOk P w H h)(k:∀b u,h.get? b=some u->h'.get? b=some u):HOk P w H h':=fun a o e=>(x a o e).stay (fun b u _ q=>k b u q) (fun _ q=>q) fun _ _ q=>q
theorem HOk.laid(x:HOk P w H h)(k:∀b u,h.get? b=some u->h'.get? b=some u)(hp:h.objs.size<=a)(new:br P w (upd H a o) h' a o):HOk P w (upd H a o) h':=fun b u e=>by
 have hn:=x.fresh hp;by_cases hb:b=a
 ·subst hb;rw[au]at e;cases e;exact new
 ·rw[aj hb]at e;exact(x b u e).stay (fun c v _ q=>k c v q) (fun c q=>by rw[aj (aO q hn)];exact q) fun c xs q=>by rw[aj (aO q hn)];exact q
end
noncomputable def Rd(H:Hp)(a:Addr)(u:HO):Prop:=H a=some u\/∃o,H a=some (.frz o u)
theorem Rd.ok{P:Program}{w:World}{H:Hp}{h:Heap}{a:Addr}{u:HO}(r:Rd H a u)(x:HOk P w H h):br P w H h a u:=by
 rcases r with r | ⟨o,r⟩
 ·exact x a u r
 ·obtain⟨_,q⟩:=x a _ r;exact q
noncomputable def Mut:Option HO->Prop
 |some (.lst _)=>True
 |some (.dK _)=>True
 |some (.dT _)=>True
 |some (.set _ _)=>True
 |some (.ins _ _ _)=>True
 |some (.ext _)=>True
 |_=>False
section
variable{P:Program}{w:World}{H:Hp}{h h':Heap}{x e:Addr}{o':HO}
theorem HOk.write(ok:HOk P w H h)(mu:Mut (H x))(he:e=x\/H e=some (.own x))(k:∀b u,b≠e->h.get? b=some u->h'.get? b=some u)(heo:∃u,h'.get? e=some u)
  (new:br P w (upd H x o') h' x o'):HOk P w (upd H x o') h':=fun b u q=>by
 have N9:∀c y,H c=some (.own y)->c≠x:=fun c y r z=>by subst z;rw[r]at mu;exact mu
 have Q9:∀c xs,H c=some (.tup xs)->c≠x:=fun c xs r z=>by subst z;rw[r]at mu;exact mu
 by_cases hb:b=x
 ·subst hb;rw[au]at q;cases q;exact new
 ·rw[aj hb]at q;by_cases hbe:b=e
  ·have q':H b=some (.own x):=by
    rcases he with z | z
    ·exact absurd (hbe.trans z) hb
    ·rw[hbe];exact z
   rw[q]at q';cases q';obtain⟨v,hv⟩:=heo;exact⟨v,by rw[hbe];exact hv⟩
  ·refine(ok b u q).stay (fun c v hc r=>k c v ?_ r) (fun c r=>by rw[aj (N9 c b r)];exact r) fun c xs r=>by rw[aj (Q9 c xs r)];exact r
   rcases hc with rfl | hc
   ·exact hbe
   ·rintro rfl;rcases he with z | z
    ·exact N9 c b hc z
    ·rw[hc]at z;cases z;exact hb rfl
end
structure Un(fs ex:List Addr)(H H':Hp)(h h':Heap):Prop where
 keep:∀b o,h.get? b=some o->H b=none->b∉fs->b∉ex->h'.get? b=some o
 slot:∀b o,h.get? b=some o->H b=none->b∈fs->b∉ex->∃sl,h'.get? b=some { o with slots:=sl }
 free:∀b o,h.get? b=some o->H b=none->b∉ex->H' b=none
 there:∀b o,h.get? b=some o->b∉ex->∃o',h'.get? b=some o'
 tups:∀b xs,H b=some (.tup xs)->H' b=some (.tup xs)
 jZ:∀b o u,H b=some (.frz o u)->H' b=some (.frz o u)
 m7:∀b ps,H b=some (.tbl ps)->∃more,H' b=some (.tbl (ps++more))
section
variable{fs fs' ex ex':List Addr}{H H1 H2:Hp}{h h1 h2 h':Heap}{a x e:Addr}{o:HO}
theorem Un.any(u:Un fs ex H H1 h h1){b:Addr}{ob:Obj}(q:h.get? b=some ob)(n:H b=none)(hx:b∉ex):∃sl,h1.get? b=some { ob with slots:=sl }:=by
 by_cases hb:b∈fs
 ·exact u.slot b ob q n hb hx
 ·exact⟨ob.slots,u.keep b ob q n hb hx⟩
theorem Un.kept(k:∀b u,h.get? b=some u->h'.get? b=some u):Un fs ex H H h h':=
 ⟨fun b ob q _ _ _=>k b ob q,fun b ob q _ _ _=>⟨ob.slots,k b ob q⟩,fun _ _ _ n _=>n,fun b ob q _=>⟨ob,k b ob q⟩,fun _ _ q=>q,fun _ _ _ q=>q,fun _ ps q=>⟨#[],by rw[q];simp⟩⟩
theorem Un.refl:Un fs ex H H h h:=Un.kept fun _ _ q=>q
theorem Un.laid(k:∀b u,h.get? b=some u->h'.get? b=some u)(hp:h.objs.size<=a)(hn:H a=none):Un fs ex H (upd H a o) h h' where
 keep:=fun b u q _ _ _=>k b u q
 slot:=fun b u q _ _ _=>⟨u.slots,k b u q⟩
 free:=fun b u q n _=>by rw[aj (S0 (SN (SD q) hp))];exact n
 there:=fun b u q _=>⟨u,k b u q⟩
 tups:=fun b xs q=>by rw[aj (aO q hn)];exact q
 jZ:=fun b u xs q=>by rw[aj (aO q hn)];exact q
 m7:=fun b ps q=>⟨#[],by rw[aj (aO q hn),q];simp⟩
theorem Un.write(mu:Mut (H x))(he:e=x\/H e=some (.own x))(k:∀b u,b≠e->h.get? b=some u->h'.get? b=some u)(heo:∃u,h'.get? e=some u):Un fs ex H (upd H x o) h h':=by
 have hx:∀b,H b=none->b≠x:=fun b n z=>by subst z;rw[n]at mu;exact mu
 have hb:∀b,H b=none->b≠e:=fun b n z=>by
  subst z;rcases he with r | r
  ·exact hx b n r
  ·rw[n]at r;cases r
 have hm:∀b u,H b=some u->¬Mut (some u)->b≠x:=fun b u q nm z=>by subst z;rw[q]at mu;exact nm mu
 refine ⟨fun b u q n _ _=>k b u (hb b n) q,fun b u q n _ _=>⟨u.slots,k b u (hb b n) q⟩,fun b u q n _=>by rw [aj (hx b n)];exact n,fun b u q _=>?_,
  fun b xs q=>by rw[aj (hm b _ q fun z=>z)];exact q,fun b u xs q=>by rw[aj (hm b _ q fun z=>z)];exact q,fun b ps q=>⟨#[],by rw[aj (hm b _ q fun z=>z),q];simp⟩⟩
 by_cases hbe:b=e
 ·subst hbe;exact heo
 ·exact⟨u,k b u hbe q⟩
end
noncomputable def trk(h:Heap)(H:Hp):List Addr:=(SR h.objs.size).filter fun a=>(H a).isSome
noncomputable def uA(h:Heap)(H:Hp):Heap:=Vw h (trk h H)
theorem A9(h:Heap)(H:Hp):(uA h H).objs.size=h.objs.size:=PySem.W.hideAll_size _ _
theorem Cm{h:Heap}{H:Hp}{b:Addr}{o:Obj}(e:h.get? b=some o)(n:H b=none):(uA h H).get? b=some o:=
 PySem.W.hideAll_get _ e fun hm=>by have q:(H b).isSome=true:=(Ur.mp hm).2;rw[n]at q;simp at q
theorem GG{h:Heap}{H:Hp}{b:Addr}{o:Obj}(e:(uA h H).get? b=some o):h.get? b=some o/\H b=none:=by
 have e':h.get? b=some o:=PySem.W.of_hideAll (trk h H) e;refine⟨e',?_⟩;cases q:H b with
 |none=>rfl
 |some x=>have hm:b∈trk h H:=Ur.mpr ⟨TX.mpr (SD e'),by simp[q]⟩;have z:(uA h H).get? b=none:=PySem.W.hideAll_none (trk h H) hm;rw[z]at e;cases e
structure Mod(K:gV)(mg:Str->Option Value)(base:Heap):Prop where
 kin:K.In base
 glob:base.Ns mainGlobals mg
 blt:∃mb,base.Ns builtinsNs mb/\∀x:Str,x ≠ "__name__" -> mb x=bootBuiltins x
 nolimit:base.NoLimit
structure Cx where
 prog:Program
 w:World
 K:gV
 mg:Str->Option Value
 base:Heap
 A:Around
 N:List Str
 s₀:Shared
 H₀:Hp
 env:Env
 outer:List Env
 stack:List Env
 ex:List Addr
 fn:Str->Bool
 calm:Bool
 pn:List (Addr×Obj)
 xe:Value->Shared->Prop
noncomputable def frs(l:List Env):List Addr:=l.filterMap (·.frame)
noncomputable abbrev Cx.fs(X:Cx):List Addr:=frs X.outer
noncomputable def Vis(sc:Scope)(x:Str):Prop:=sc.names.lookup x=some .local\/sc.names.lookup x=some .cell\/sc.names.lookup x=some .free
noncomputable def Loc(sc:Scope)(x:Str):Prop:=sc.names.lookup x=some .local\/sc.names.lookup x=some .cell
noncomputable def Look(env:Env)(h:Heap)(m:Str->Option Value)(x:Str)(u:Value):Prop:=
 (env.kindOf x=some .local/\m x=some u)\/((env.kindOf x=some .cell\/env.kindOf x=some .free)/\∃c,env.cells.lookup x=some c/\h.IsCell c (some u))
structure Cx.Ok(X:Cx):Prop where
 mod:Mod X.K X.mg X.base
 kind:X.env.scope.kind=.function
 glob:X.env.globals=mainGlobals
 blt:X.env.builtins=builtinsNs
 above:X.s₀.heap.objs.size<=X.env.locals
 inj:∀x y c,X.env.cells.lookup x=some c->X.env.cells.lookup y=some c->x=y
 has:∀x,(X.env.kindOf x=some .cell\/X.env.kindOf x=some .free)->∃c,X.env.cells.lookup x=some c
 cab:∀x c,X.fn x=true->X.env.cells.lookup x=some c->X.s₀.heap.objs.size<=c
 hd:X.calm=true->X.A.handled=none
 frames:X.A.frames=some X.stack
 stk:X.stack=X.outer\/(X.stack=X.env::X.outer/\X.env.frame=some X.env.locals)
 exf:∀b∈X.ex,b≠X.env.locals/\∀x c,X.env.cells.lookup x=some c->c≠b
 bs:∀b o,X.base.get? b=some o->X.s₀.heap.get? b=some o/\X.H₀ b=none
 bsz:X.base.objs.size<=X.s₀.heap.objs.size
 Cn:∀b o,X.base.get? b=some o->b∉X.ex
 GH:∀b∈X.ex,b∉X.fs
 oX:X.s₀.heap.FunFrames X.base X.outer
 frf:∀b∈X.fs,X.H₀ b=none
structure Inv(X:Cx)(pins:List (Addr×Obj))(σ:List (Option V))(H:Hp)(s:Shared):Prop where
 ok:X.Ok
 os:s.os=X.s₀.os
 bare:AllBare s.gens
 base:Un X.fs X.ex X.H₀ H X.s₀.heap s.heap
 loc:∃m,s.heap.Ns X.env.locals m/\∀(i:Nat) (x:Str) (v:V),X.N[i]?=some x->σ[i]?=some (some v)->Vis X.env.scope x->∃u,RelV v u/\Look X.env s.heap m x u
 cell:∀x c,X.env.cells.lookup x=some c->∃v,s.heap.IsCell c v
 free:H X.env.locals=none
 dG:∀x c,X.env.cells.lookup x=some c->H c=none
 pin:∀p∈X.pn++pins,s.heap.get? p.1=some p.2/\H p.1=none/\p.1≠X.env.locals/\p.1∉X.fs/\∀v,p.2.data≠.cell v
 hok:HOk X.prog X.w H s.heap
 len:σ.length=X.N.length
section
variable{X:Cx}{pins:List (Addr×Obj)}{σ:List (Option V)}{H H':Hp}{s:Shared}{h':Heap}
theorem Cx.Ok.Q_(ok:X.Ok){b:Addr}{o:Obj}(e:X.base.get? b=some o):b∉X.fs:=fun hb=>by have:=(ok.oX.mem hb).1;rw[e]at this;cases this
theorem Inv.bs(I:Inv X pins σ H s):∀b o,X.base.get? b=some o->s.heap.get? b=some o/\H b=none:=fun b o e=>⟨I.base.keep b o (I.ok.bs b o e).1 (I.ok.bs b o e).2 (I.ok.Q_ e) (I.ok.Cn b o e),I.base.free b o (I.ok.bs b o e).1 (I.ok.bs b o e).2 (I.ok.Cn b o e)⟩
theorem Inv.bk(I:Inv X pins σ H s):∀b o,X.base.get? b=some o->s.heap.get? b=some o:=fun b o e=>(I.bs b o e).1
theorem Inv.mod(I:Inv X pins σ H s):Mod X.K X.mg X.base:=I.ok.mod
theorem Inv.kIn(I:Inv X pins σ H s):X.K.In s.heap:=I.ok.mod.kin.keeps I.bk
theorem Inv.lt(I:Inv X pins σ H s):X.env.locals<s.heap.objs.size:=let ⟨_,hn,_⟩:=I.loc;hn.lt
theorem Inv.sz(I:Inv X pins σ H s):X.s₀.heap.objs.size<=s.heap.objs.size:=Tn I.ok.above (U4 I.lt)
theorem Inv.Ra(I:Inv X pins σ H s){a:Addr}(h:s.heap.objs.size<=a):a∉X.fs:=fun hb=>by obtain⟨_,o,ho,_⟩:=I.ok.oX.mem hb;exact absurd (SN (SD ho) (Tn I.sz h)) (Tq _)
theorem Inv.cne(I:Inv X pins σ H s):∀x c,X.env.cells.lookup x=some c->c≠X.env.locals:=fun x c e z=>by obtain⟨v,o,ho,hd⟩:=I.cell x c e;obtain⟨m,⟨o',es,ep,ho',hd',_⟩,_⟩:=I.loc;rw[z,ho']at ho;cases ho;rw[hd']at hd;cases hd
theorem Inv.oX(I:Inv X pins σ H s):s.heap.FunFrames X.base X.outer:=by
 have all:∀(l:List Env),(∀b∈frs l,b∈X.fs)->X.s₀.heap.FunFrames X.base l->s.heap.FunFrames X.base l:=by
  intro l
  induction l with
  |nil=>intro _ _;trivial
  |cons env r ih=>intro hs hl;obtain⟨hk,⟨L,o,hf,hn,ho,hd⟩,hr⟩:=hl;have hL:L∈X.fs:=hs L (by unfold frs;rw[U7,hf];exact Sy);obtain⟨sl,e⟩:=I.base.slot L o ho (I.ok.frf L hL) hL fun z=>I.ok.GH L z hL;exact⟨hk,⟨L,_,hf,hn,e,hd⟩,ih (fun b hb=>hs b (by unfold frs;rw[U7,hf];exact SA _ hb)) hr⟩
 exact all X.outer (fun _ hb=>hb) I.ok.oX
theorem Inv.stack(I:Inv X pins σ H s):s.heap.FunFrames X.base X.stack:=by
 rcases I.ok.stk with e | ⟨e,hf⟩
 ·rw[e];exact I.oX
 ·rw[e];obtain⟨m,hn,_⟩:=I.loc;refine .cons (by rw[I.ok.kind];decide) hf hn ?_ I.oX;exact Heap.get?_none_of_le (Tn I.ok.bsz I.ok.above)
theorem Inv.pJ(I:Inv X pins σ H s):∀b∈frs X.stack,b∈X.env.locals::X.fs:=fun b hb=>by
 rcases I.ok.stk with e | ⟨e,hf⟩
 ·rw[e]at hb;exact SA _ hb
 ·rw[e]at hb;unfold frs at hb;rw[U7,hf]at hb;exact hb
theorem Inv.uB(I:Inv X pins σ H s):∀b∈frs X.stack,H b=none:=fun b hb=>by
 rcases SH.mp (I.pJ b hb) with e | hb
 ·rw[e];exact I.free
 ·obtain⟨_,o,ho,_⟩:=I.ok.oX.mem hb;exact I.base.free b o ho (I.ok.frf b hb) fun z=>I.ok.GH b z hb
theorem Inv.step{g':Array GenState}{t':Nat}{d':Drawn}{ch:List Addr}(I:Inv X pins σ H s)
  (hch:∀b∈ch,(b∈X.ex\/X.s₀.heap.objs.size<=b)/\b≠X.env.locals/\(∀x c,X.env.cells.lookup x=some c->c≠b)/\∀p∈X.pn++pins,p.1≠b)
  (keep:∀b o,b≠X.env.locals->b∉X.fs->b∉ch->s.heap.get? b=some o->H b=none->h'.get? b=some o)
  (slot:∀b o,b≠X.env.locals->b∈X.fs->b∉ch->s.heap.get? b=some o->H b=none->∃sl,h'.get? b=some { o with slots:=sl }) (free:∀b o,b∉ch->s.heap.get? b=some o->H b=none->H' b=none)
  (there:∀b o,b∉ch->s.heap.get? b=some o->∃o',h'.get? b=some o')
  (tups:∀b xs,H b=some (.tup xs)->H' b=some (.tup xs)) (jZ:∀b o u,H b=some (.frz o u)->H' b=some (.frz o u)) (m7:∀b ps,H b=some (.tbl ps)->∃more,H' b=some (.tbl (ps++more)))
  (ns:∀m,s.heap.Ns X.env.locals m->h'.Ns X.env.locals m) (hok:HOk X.prog X.w H' h') (hg:AllBare g') :
  Inv X pins σ H' { s with heap:=h',gens:=g',drawn:=d',toks:=t' }:=by
 have neL:∀b o,X.s₀.heap.get? b=some o->b≠X.env.locals:=fun b o e=>S0 (SN (SD e) I.ok.above);have neC:∀b o,X.s₀.heap.get? b=some o->b∉X.ex->b∉ch:=fun b o e hx hb=>by
  rcases (hch b hb).1 with z | z
  ·exact hx z
  ·exact absurd (SN (SD e) z) (Tq _)
 have cellK:∀x c,X.env.cells.lookup x=some c->∀v,s.heap.IsCell c v->h'.IsCell c v:=fun x c e v ⟨o,ho,hd⟩=>by
  have nch:c∉ch:=fun z=>(hch c z).2.2.1 x c e rfl;by_cases hc:c∈X.fs
  ·obtain⟨sl,q⟩:=slot c o (I.cne x c e) hc nch ho (I.dG x c e);exact⟨_,q,hd⟩
  ·exact⟨o,keep c o (I.cne x c e) hc nch ho (I.dG x c e),hd⟩
 refine⟨I.ok,I.os,hg,⟨fun b o e n hb hx=>?_,fun b o e n hb hx=>?_,fun b o e n hx=>?_,fun b o e hx=>?_,fun b xs e=>tups b xs (I.base.tups b xs e),fun b o xs e=>jZ b o xs (I.base.jZ b o xs e),fun b ps e=>?_⟩,?_,fun x c e=>?_,?_,fun x c e=>?_,fun p hp=>?_,hok,I.len⟩
 ·exact keep b o (neL b o e) hb (neC b o e hx) (I.base.keep b o e n hb hx) (I.base.free b o e n hx)
 ·obtain⟨sl,e1⟩:=I.base.slot b o e n hb hx;obtain⟨sl',e2⟩:=slot b _ (neL b o e) hb (neC b o e hx) e1 (I.base.free b o e n hx);exact⟨sl',e2⟩
 ·obtain⟨o',e1⟩:=I.base.there b o e hx;exact free b o' (neC b o e hx) e1 (I.base.free b o e n hx)
 ·obtain⟨o',e1⟩:=I.base.there b o e hx;exact there b o' (neC b o e hx) e1
 ·obtain⟨m1,e1⟩:=I.base.m7 b ps e;obtain⟨m2,e2⟩:=m7 b _ e1;exact⟨m1++m2,by rw[e2,Array.append_assoc]⟩
 ·obtain⟨m,hn,hl⟩:=I.loc;refine⟨m,ns m hn,fun i x v e1 e2 e3=>?_⟩;obtain⟨u,r,l⟩:=hl i x v e1 e2 e3;refine⟨u,r,?_⟩;rcases l with l | ⟨k,c,e,z⟩
  ·exact .inl l
  ·exact .inr ⟨k,c,e,cellK x c e _ z⟩
 ·obtain⟨v,z⟩:=I.cell x c e;exact⟨v,cellK x c e v z⟩
 ·obtain⟨m,⟨o,_,_,ho,_⟩,_⟩:=I.loc;exact free _ o (fun z=>(hch _ z).2.1 rfl) ho I.free
 ·obtain⟨v,o,ho,hd⟩:=I.cell x c e;exact free c o (fun z=>(hch c z).2.2.1 x c e rfl) ho (I.dG x c e)
 ·obtain⟨e,n,ne,nf,d⟩:=I.pin p hp;have nch:p.1∉ch:=fun z=>(hch p.1 z).2.2.2 p hp rfl;exact⟨keep p.1 p.2 ne nf nch e n,free p.1 p.2 nch e n,ne,nf,d⟩
theorem Inv.un{t':Nat}(I:Inv X pins σ H s)(u:Un X.fs [] H H' s.heap h')(hok:HOk X.prog X.w H' h'):Inv X pins σ H' { s with heap:=h',toks:=t' }:=by
 obtain⟨m,⟨o,es,ep,ho,r⟩,_⟩:=id I.loc;obtain⟨sl,hL⟩:=u.any ho I.free (by simp);exact I.step (g':=s.gens) (d':=s.drawn) (ch:=[]) (fun _ z=>nomatch z) (fun b o _ hb _ e n=>u.keep b o e n hb (by simp)) (fun b o _ hb _ e n=>u.slot b o e n hb (by simp)) (fun b o _ e n=>u.free b o e n (by simp)) (fun b o _ e=>u.there b o e (by simp)) u.tups u.jZ u.m7 (fun m' hm=>by obtain⟨o',es',ep',ho',r'⟩:=hm;rw[ho]at ho';cases ho';exact⟨_,es',ep',hL,r'⟩) hok I.bare
theorem Inv.call{g':Array GenState}{t':Nat}{d':Drawn}{ch:List Addr}(I:Inv X pins σ H s)(u:Un (frs X.stack) ch H H' s.heap h')(hok:HOk X.prog X.w H' h')(hg:AllBare g')
  (hch:∀b∈ch,(b∈X.ex\/X.s₀.heap.objs.size<=b)/\b≠X.env.locals/\(∀x c,X.env.cells.lookup x=some c->c≠b)/\∀p∈X.pn++pins,p.1≠b) :
  Inv X pins σ H' { s with heap:=h',gens:=g',drawn:=d',toks:=t' }:=by
 obtain⟨m,⟨o,es,ep,ho,r⟩,_⟩:=id I.loc;obtain⟨sl,hL⟩:=u.any ho I.free fun z=>(hch _ z).2.1 rfl;exact I.step (ch:=ch) hch (fun b o hL hb hc e n=>u.keep b o e n (fun z=>(SH.mp (I.pJ b z)).elim hL hb) hc) (fun b o _ _ hc e n=>u.any e n hc) (fun b o hc e n=>u.free b o e n hc) (fun b o hc e=>u.there b o e hc) u.tups u.jZ u.m7 (fun m' hm=>by obtain⟨o',es',ep',ho',r'⟩:=hm;rw[ho]at ho';cases ho';exact⟨_,es',ep',hL,r'⟩) hok hg
theorem Inv.turned{t':Nat}{it:Addr}(I:Inv X pins σ H s)(k:∀b o,b≠it->s.heap.get? b=some o->h'.get? b=some o)(hn:H it=none)(hL:it≠X.env.locals)
  (h1:it∈X.ex\/X.s₀.heap.objs.size<=it) (h2:∀x c,X.env.cells.lookup x=some c->c≠it) (h3:∀p∈X.pn++pins,p.1≠it):Inv X pins σ H { s with heap:=h',toks:=t' }:=by
 have nit:∀b u,H b=some u->b≠it:=fun b u e z=>by rw[z,hn]at e;cases e
 refine I.step (g':=s.gens) (d':=s.drawn) (ch:=[it]) (fun b hb=>?_) (fun b o _ _ hc e _=>k b o (fun z=>hc (by simp[z])) e) (fun b o _ _ hc e _=>⟨o.slots,k b o (fun z=>hc (by simp[z])) e⟩) (fun _ _ _ _ n=>n)
  (fun b o hc e=>⟨o,k b o (fun z=>hc (by simp[z])) e⟩) (fun _ _ e=>e) (fun _ _ _ e=>e) (fun b ps e=>⟨#[],by rw[e];simp⟩) (fun m hm=>?_) (fun b u e=>?_) I.bare
 ·have e:b=it:=by simpa using hb
  subst e;exact⟨h1,hL,h2,h3⟩
 ·obtain⟨o,es,ep,ho,r⟩:=hm;exact⟨o,es,ep,k _ o (Ne.symm hL) ho,r⟩
 ·refine(I.hok b u e).stay (fun c v hc q=>k c v ?_ q) (fun _ q=>q) fun _ _ q=>q;rcases hc with z | z
  ·rw[z];exact nit b u e
  ·exact nit c _ z
theorem Inv.tok(I:Inv X pins σ H s)(t:Nat):Inv X pins σ H { s with toks:=t }:=I.un (h':=s.heap) (t':=t) Un.refl I.hok
theorem Inv.kept{t':Nat}(I:Inv X pins σ H s)(k:∀b u,s.heap.get? b=some u->h'.get? b=some u):Inv X pins σ H { s with heap:=h',toks:=t' }:=I.un (Un.kept k) (I.hok.kept k)
theorem Inv.laid{a:Addr}{o:HO}{t':Nat}(I:Inv X pins σ H s)(k:∀b u,s.heap.get? b=some u->h'.get? b=some u)(hp:s.heap.objs.size<=a)(new:br X.prog X.w (upd H a o) h' a o) :
  Inv X pins σ (upd H a o) { s with heap:=h',toks:=t' }:=I.un (Un.laid k hp (I.hok.fresh hp)) (I.hok.laid k hp new)
theorem Inv.write{x e:Addr}{o:HO}{t':Nat}(I:Inv X pins σ H s)(mu:Mut (H x))(he:e=x\/H e=some (.own x))(k:∀b u,b≠e->s.heap.get? b=some u->h'.get? b=some u)(heo:∃u,h'.get? e=some u)
  (new:br X.prog X.w (upd H x o) h' x o):Inv X pins σ (upd H x o) { s with heap:=h',toks:=t' }:=I.un (Un.write mu he k heo) (I.hok.write mu he k heo new)
theorem Inv.zY{Jk:List (Addr×Obj)}(I:Inv X pins σ H s)(h:∀p∈Jk,s.heap.get? p.1=some p.2/\H p.1=none/\p.1≠X.env.locals/\p.1∉X.fs/\∀v,p.2.data≠.cell v):Inv X Jk σ H s:=
 ⟨I.ok,I.os,I.bare,I.base,I.loc,I.cell,I.free,I.dG,fun p hp=>(Te.mp hp).elim (fun z=>I.pin p (To _ z)) (h p),I.hok,I.len⟩
theorem pK{N:List Str}(hN:N.Nodup){i j:Nat}{x:Str}(a:N[i]?=some x)(b:N[j]?=some x):i=j:=by obtain⟨h1,e1⟩:=Sw.mp a;obtain⟨h2,e2⟩:=Sw.mp b;exact(List.getElem_inj hN).mp (e1.trans e2.symm)
theorem m8{M:Model}{A:Around}{E:Value->Shared->Prop}{i:Nat}{x:Str}{v:V}{u:Value}{Q:Unit->Shared->Prop}(I:Inv X pins σ H s)(hN:X.N.Nodup)(hi:X.N[i]?=some x)(hx:Loc X.env.scope x)(r:RelV v u)
  (h:∀s',Inv X pins (σ.set i (some v)) H s'->(∃a,UP a s.heap s'.heap/\(a=X.env.locals\/X.env.cells.lookup x=some a))->Q () s') (hf:X.fn x=true\/X.env.scope.names.lookup x=some .local:=by trivial):wpAny M A (storeName X.env x u) Q E s:=by
 obtain⟨m,hn,hl⟩:=id I.loc;have hcls:(X.env.scope.kind == .class||(X.env.scope.kind == .module&&X.env.locals != X.env.globals))=false:=by rw[I.ok.kind];rfl
 have hiσ:i<σ.length:=by rw[I.len];exact(Sw.mp hi).1
 have cne:=I.cne;have tracked:∀{a:Addr} {h':Heap},(∃o,s.heap.get? a=some o/\H a=none)->UP a s.heap h'->HOk X.prog X.w H h':=fun {a h'} ha hs b ob e=>by
  obtain⟨_,_,hfree⟩:=ha;refine(I.hok b ob e).stay (fun c w' hc q=>(hs.2 c ?_).trans q) (fun _ q=>q) fun _ _ q=>q;rintro rfl;rcases hc with rfl | hc
  ·rw[hfree]at e;cases e
  ·rw[hfree]at hc;cases hc
 rcases hx with hk | hk
 ·refine wpAny_storeName_local hk hn (fun h' hn' hs=>?_) hcls;obtain⟨oL,_,_,hoL,_⟩:=id hn;refine h _ ⟨I.ok,I.os,I.bare,⟨fun b o e n hb hx=>?_,fun b o e n hb hx=>?_,I.base.free,fun b o e hx=>?_,I.base.tups,I.base.jZ,I.base.m7⟩,⟨_,hn',fun j y v' e1 e2 e3=>?_⟩,fun y c e=>?_,I.free,I.dG,fun p hp=>?_,tracked ⟨oL,hoL,I.free⟩ hs,by simpa using I.len⟩ ⟨_,hs,.inl rfl⟩
  ·exact(hs.2 b (S0 (SN (SD e) I.ok.above))).trans (I.base.keep b o e n hb hx)
  ·obtain⟨sl,e1⟩:=I.base.slot b o e n hb hx;exact⟨sl,(hs.2 b (S0 (SN (SD e) I.ok.above))).trans e1⟩
  ·obtain⟨o',e1⟩:=I.base.there b o e hx;exact⟨o',(hs.2 b (S0 (SN (SD e) I.ok.above))).trans e1⟩
  ·by_cases hj:j=i
   ·subst hj;rw[hi]at e1;cases e1;rw[SS hiσ]at e2;cases e2;exact⟨u,r,.inl ⟨hk,by simp⟩⟩
   ·rw[eg (Ne.symm hj)]at e2;obtain⟨u',r',q⟩:=hl j y v' e1 e2 e3;refine⟨u',r',?_⟩;rcases q with⟨k,e⟩ | ⟨k,c,e,z⟩
    ·refine .inl ⟨k,?_⟩;have:y≠x:=fun e=>hj (pK hN e1 (e▸hi));simp[this,e]
    ·exact .inr ⟨k,c,e,z.sameBut hs (cne y c e)⟩
  ·obtain⟨w',z⟩:=I.cell y c e;exact⟨w',z.sameBut hs (cne y c e)⟩
  ·obtain⟨e,n,ne,nf,d⟩:=I.pin p hp;exact⟨(hs.2 p.1 ne).trans e,n,ne,nf,d⟩
 ·have hfn:X.fn x=true:=by
   rcases hf with z | z
   ·exact z
   ·rw[z]at hk;cases hk
  obtain⟨c,hc⟩:=I.ok.has x (.inl hk);obtain⟨w',z⟩:=I.cell x c hc;refine wpAny_storeName_cell I.ok.kind hk hc z (fun h' hc' hs=>?_);obtain⟨oc,hoc,Rb⟩:=id z;refine h { s with heap:=h' } ⟨I.ok,I.os,I.bare,⟨fun b o e n hb hx=>?_,fun b o e n hb hx=>?_,I.base.free,fun b o e hx=>?_,I.base.tups,I.base.jZ,I.base.m7⟩,⟨m,hn.sameBut hs (Ne.symm (cne x c hc)),fun j y v' e1 e2 e3=>?_⟩,fun y c' e=>?_,I.free,I.dG,fun p hp=>?_,tracked ⟨oc,hoc,I.dG x c hc⟩ hs,by simpa using I.len⟩ ⟨c,hs,.inr hc⟩
  ·exact(hs.2 b (S0 (SN (SD e) (I.ok.cab x c hfn hc)))).trans (I.base.keep b o e n hb hx)
  ·obtain⟨sl,e1⟩:=I.base.slot b o e n hb hx;exact⟨sl,(hs.2 b (S0 (SN (SD e) (I.ok.cab x c hfn hc)))).trans e1⟩
  ·obtain⟨o',e1⟩:=I.base.there b o e hx;exact⟨o',(hs.2 b (S0 (SN (SD e) (I.ok.cab x c hfn hc)))).trans e1⟩
  ·by_cases hj:j=i
   ·subst hj;rw[hi]at e1;cases e1;rw[SS hiσ]at e2;cases e2;exact⟨u,r,.inr ⟨.inl hk,c,hc,hc'⟩⟩
   ·rw[eg (Ne.symm hj)]at e2;obtain⟨u',r',q⟩:=hl j y v' e1 e2 e3;refine⟨u',r',?_⟩;rcases q with q | ⟨k,c',e,z'⟩
    ·exact .inl q
    ·refine .inr ⟨k,c',e,z'.sameBut hs ?_⟩;rintro rfl;exact hj (pK hN e1 (I.ok.inj _ _ _ e hc▸hi))
  ·by_cases hcc:c'=c
   ·subst hcc;exact⟨_,hc'⟩
   ·obtain⟨w2,z2⟩:=I.cell y c' e;exact⟨w2,z2.sameBut hs hcc⟩
  ·obtain⟨e,n,ne,nf,d⟩:=I.pin p hp;refine⟨(hs.2 p.1 ?_).trans e,n,ne,nf,d⟩;intro q;rw[q,hoc]at e;have q':oc=p.2:=Option.some.inj e;exact d w' (by rw[<- q'];exact Rb)
theorem vO{M:Model}{A:Around}{E:Value->Shared->Prop}{i:Nat}{x:Str}{v:V}{u:Value}{Q:Unit->Shared->Prop}(I:Inv X pins σ H s)(hN:X.N.Nodup)(hi:X.N[i]?=some x)(hx:Loc X.env.scope x)(r:RelV v u)
  (h:∀s',Inv X pins (σ.set i (some v)) H s'->Q () s') (hf:X.fn x=true\/X.env.scope.names.lookup x=some .local:=by trivial):wpAny M A (storeName X.env x u) Q E s:=
 m8 I hN hi hx r (fun s' I' _=>h s' I') hf
theorem Inv.N_{s':Shared}{ch:List Addr}(I:Inv X pins σ H s)(ho:s'.os=s.os)(u:Un (frs X.stack) ch H H' s.heap s'.heap)(hok:HOk X.prog X.w H' s'.heap)(hg:AllBare s'.gens)
  (hch:∀b∈ch,(b∈X.ex\/X.s₀.heap.objs.size<=b)/\b≠X.env.locals/\(∀x c,X.env.cells.lookup x=some c->c≠b)/\∀p∈X.pn++pins,p.1≠b):Inv X pins σ H' s':=by
 obtain⟨h',g',d',t',o'⟩:=s';have e:o'=s.os:=ho;subst e;exact I.call (g':=g') (t':=t') (d':=d') u hok hg hch
end
noncomputable abbrev XK:=Value->Option Addr->Hp->Prop
noncomputable abbrev St:=List (Option V)
noncomputable abbrev VK:=V->Hp->Prop
noncomputable abbrev TE:=St->Hp->VK->Prop
noncomputable abbrev TT:=St->Hp->(Bool->Hp->Prop)->Prop
noncomputable abbrev TA:=St->Hp->(List V->Hp->Prop)->Prop
structure Ends where
 nx:St->Hp->Prop
 rt:VK
 bk:St->Hp->Prop:=fun _ _=>False
 ct:St->Hp->Prop:=fun _ _=>False
noncomputable abbrev TS:=Ends->St->Hp->Prop
noncomputable def EP(X:Cx)(pins:List (Addr×Obj))(σ:St)(Q:VK)(u:Value)(s':Shared):Prop:=∃v H',Inv X pins σ H' s'/\RelV v u/\Q v H'
noncomputable def TP(X:Cx)(pins:List (Addr×Obj))(σ:St)(Q:Bool->Hp->Prop)(b:Bool)(s':Shared):Prop:=∃H',Inv X pins σ H' s'/\Q b H'
noncomputable def AP(X:Cx)(pins:List (Addr×Obj))(σ:St)(Q:List V->Hp->Prop)(us:List Value)(s':Shared):Prop:=∃vs H',Inv X pins σ H' s'/\Vals vs us/\Q vs H'
noncomputable def SP(X:Cx)(pins:List (Addr×Obj))(D:Ends)(f:Flow)(s':Shared):Prop:=
 match f with
 |.next=>∃σ' H',Inv X pins σ' H' s'/\D.nx σ' H'
 |.brk=>∃σ' H',Inv X pins σ' H' s'/\D.bk σ' H'
 |.cont=>∃σ' H',Inv X pins σ' H' s'/\D.ct σ' H'
 |.ret u=>∃v σ' H',Inv X pins σ' H' s'/\RelV v u/\D.rt v H'
noncomputable def PE(X:Cx)(e:Expr)(t:TE):Prop:=
 ∀(pins:List (Addr×Obj)) (s:Shared) (σ:St) (H:Hp) (Q:VK),Inv X pins σ H s->t σ H Q->wpAny (model X.prog X.w) X.A (eval e X.env) (EP X pins σ Q) X.xe s
noncomputable def PT(X:Cx)(e:Expr)(t:TT):Prop:=
 ∀(pins:List (Addr×Obj)) (s:Shared) (σ:St) (H:Hp) (Q:Bool->Hp->Prop),Inv X pins σ H s->t σ H Q->wpAny (model X.prog X.w) X.A (isTrue e X.env (eval e X.env)) (TP X pins σ Q) X.xe s
noncomputable def PW(X:Cx)(e:Expr)(t:TT):Prop:=
 ∀(whole:Sem Value) (pins:List (Addr×Obj)) (s:Shared) (σ:St) (H:Hp) (Q:Bool->Hp->Prop),Inv X pins σ H s->t σ H Q->wpAny (model X.prog X.w) X.A (isTrue e X.env whole) (TP X pins σ Q) X.xe s
theorem PW.pt{X:Cx}{e:Expr}{t:TT}(h:PW X e t):PT X e t:=h _
noncomputable def PA(X:Cx)(es:List Expr)(t:TA):Prop:=
 ∀(pos:Pos) (pins:List (Addr×Obj)) (s:Shared) (σ:St) (H:Hp) (Q:List V->Hp->Prop),Inv X pins σ H s->t σ H Q->wpAny (model X.prog X.w) X.A (spliced (backTo pos (starEach es X.env))) (AP X pins σ Q) X.xe s
noncomputable def PS(X:Cx)(st:Stmt)(t:TS):Prop:=
 ∀(pins:List (Addr×Obj)) (s:Shared) (σ:St) (H:Hp) (D:Ends),Inv X pins σ H s->t D σ H->wpAny (model X.prog X.w) X.A (exec st X.env) (SP X pins D) X.xe s
noncomputable def PSs(X:Cx)(st:List Stmt)(t:TS):Prop:=
 ∀(pins:List (Addr×Obj)) (s:Shared) (σ:St) (H:Hp) (D:Ends),Inv X pins σ H s->t D σ H->wpAny (model X.prog X.w) X.A (execs st X.env) (SP X pins D) X.xe s
theorem thn{α:Type}{t:Sem α}{Q Q':α->Shared->Prop}{M:Model}{A:Around}{E:Value->Shared->Prop}{s:Shared}(h:wpAny M A t Q E s)(hQ:∀a s,Q a s->Q' a s):wpAny M A t Q' E s:=wpAny_mono h hQ fun _ _ x=>x
section
variable{X:Cx}
noncomputable def pL(i:Nat):TE:=fun σ H Q=>∃v,σ[i]?=some (some v)/\Q v H
noncomputable def tC(v:V):TE:=fun _ H Q=>Q v H
theorem fG{i:Nat}{x:Str}{pos:Pos}(hN:X.N[i]?=some x)(hv:Vis X.env.scope x)(hd:(x == ("__debug__" : Str))=false:=by decide)(hcd:(x == ("__classdict__" : Str))=false:=by decide):PE X (.Name x pos) (pL i):=by
 intro pins s σ H Q I h;obtain⟨v,e,h⟩:=h;obtain⟨m,hn,hl⟩:=I.loc;obtain⟨u,r,l⟩:=hl i x v hN e hv;have fin:EP X pins σ Q u s:=⟨v,H,I,r,h⟩
 rcases l with⟨hk,hm⟩ | ⟨hk,c,hc,hcell⟩
 ·exact wpAny_Name (wpAny_loadName_local I.ok.kind hk hn hm fin) hd
 ·rcases hk with hk | hk
  ·exact wpAny_Name (wpAny_loadName_cell I.ok.kind hk hc hcell fin) hd
  ·exact wpAny_Name (wpAny_loadName_free I.ok.kind hk hc hcell fin hcd) hd
theorem KU{i j pos}:PE X (.Constant (.int i) j pos) (tC (.int i)):=fun _ _ _ H _ I h=>wpAny_Constant_int ⟨.int i,H,I.tok _,⟨_,rfl⟩,h⟩
theorem Oa{b j pos}:PE X (.Constant (.bool b) j pos) (tC (.bl b)):=fun _ _ _ H _ I h=>Constant_bool ⟨.bl b,H,I,rfl,h⟩
theorem KW{j pos}:PE X (.Constant .none j pos) (tC .non):=fun _ _ _ H _ I h=>Constant_none ⟨.non,H,I,rfl,h⟩
theorem KY{x j pos}:PE X (.Constant (.str x) j pos) (tC (.str x)):=fun _ _ _ H _ I h=>Calls.Constant_str ⟨.str x,H,I.tok _,⟨_,rfl⟩,h⟩
noncomputable def Gl(X:Cx)(x:Str):Prop:=X.env.kindOf x=some .globalImplicit
theorem jA{E:Value->Shared->Prop}{pins:List (Addr×Obj)}{s:Shared}{σ:St}{H:Hp}{x:Str}{u:Value}{pos:Pos}{Q:Value->Shared->Prop}(I:Inv X pins σ H s)(hg:Gl X x)(hm:X.mg x=some u)(h:Q u s)
  (hd:(x == ("__debug__" : Str))=false:=by decide):wpAny (model X.prog X.w) X.A (eval (.Name x pos) X.env) Q E s:=
 Calls.Name_function_global I.ok.kind hg (Calls.loadGlobal_global (by rw[I.ok.glob];exact I.mod.glob.keeps I.bk) hm h) hd
theorem fH{E:Value->Shared->Prop}{pins:List (Addr×Obj)}{s:Shared}{σ:St}{H:Hp}{x:Str}{u:Value}{pos:Pos}{Q:Value->Shared->Prop}(I:Inv X pins σ H s)(hg:Gl X x)(hm:X.mg x=none)(hv:bootBuiltins x=some u)(h:Q u s)
  (hn:x ≠ "__name__" := by decide) (hd:(x == ("__debug__" : Str))=false:=by decide):wpAny (model X.prog X.w) X.A (eval (.Name x pos) X.env) Q E s:=by
 obtain⟨mb,h1,h2⟩:=I.mod.blt;exact Calls.Name_function_global I.ok.kind hg (Calls.loadGlobal_builtin (by rw[I.ok.glob];exact I.mod.glob.keeps I.bk) hm (by rw[I.ok.blt];exact h1.keeps I.bk) ((h2 x hn).trans hv) h) hd
theorem uC{x:Str}{v:V}{u:Value}{pos:Pos}(hg:Gl X x)(hm:X.mg x=some u)(r:RelV v u)(hd:(x == ("__debug__" : Str))=false:=by decide):PE X (.Name x pos) (tC v):=
 fun _ _ _ H _ I h=>jA I hg hm ⟨v,H,I,r,h⟩ hd
theorem zZ{x:Str}{v:V}{u:Value}{pos:Pos}(hg:Gl X x)(hm:X.mg x=none)(hv:bootBuiltins x=some u)(r:RelV v u)(hn:x ≠ "__name__" := by decide)(hd:(x == ("__debug__" : Str))=false:=by decide):PE X (.Name x pos) (tC v):=
 fun _ _ _ H _ I h=>fH I hg hm hv ⟨v,H,I,r,h⟩ hn hd
variable{a b:Expr}{ta tb:TE}{pos:Pos}
noncomputable def PC(X:Cx)(op:CmpOp)(a b:Expr)(t:TE):Prop:=
 ∀(pins:List (Addr×Obj)) (s:Shared) (σ:St) (H:Hp) (Q:VK),Inv X pins σ H s->t σ H Q ->
  wpAny (model X.prog X.w) X.A (eval a X.env) (fun v s₁=>wpAny (model X.prog X.w) X.A (eval b X.env) (fun u s₂=>wpAny (model X.prog X.w) X.A (compareOp op v u) (EP X pins σ Q) X.xe s₂) X.xe s₁) X.xe s
noncomputable def tB(t:TE):TT:=fun σ H Q=>t σ H fun x H1=>∃c,x=.bl c/\Q c H1
theorem Co{op:CmpOp}{t:TE}(h:PC X op a b t)(h1:behindInMarks op b=false:=by first | exact Ob _ (by decide) (by decide) | rfl):PT X (.Compare a [op] [b] pos) (tB t):=by intro pins s σ H Q I hw;refine wpAny_isTrue_Compare1 (thn (h pins s σ H _ I hw) fun v s1 h1=>thn h1 fun u s2 h2=>thn h2 fun c s3 ⟨x,H1,I1,r1,q1⟩=>?_) h1;obtain⟨d,rfl,q⟩:=q1;cases r1;exact wpAny_truthy_bool ⟨H1,I1,q⟩
theorem KZ{e:Expr}{t:TE}(h:PE X e t)(he:∀whole,isTrue e X.env whole=(do let v <- whole;standAt e.pos;holding [v] (truthy v)):=by intro _;rfl):PT X e (tB t):=by intro pins s σ H Q I hw;refine isTrue_plain (thn (h pins s σ H _ I hw) fun v s1 ⟨x,H1,I1,r1,q1⟩=>?_) (he _);obtain⟨d,rfl,q⟩:=q1;cases r1;exact wpAny_truthy_bool ⟨H1,I1,q⟩
variable{tA tB':TT}{rest:List Expr}
noncomputable def sF(t u:TT):TT:=fun σ H Q=>t σ H fun c H1=>if c=true then u σ H1 Q else Q false H1
noncomputable def tOr(t u:TT):TT:=fun σ H Q=>t σ H fun c H1=>if c=true then Q true H1 else u σ H1 Q
noncomputable def fh(t:TT):TT:=fun σ H Q=>t σ H fun c H1=>Q (!c) H1
theorem pw_and1(ha:PT X a tA):PW X (.BoolOp .And [a] pos) tA:=by
 intro wh pins s σ H Q I h;refine isTrue_and (thn (ha pins s σ H Q I h) fun c s1 e=>?_);cases c with
 |true=>exact isTrue_and_nil e
 |false=>exact e
theorem pw_or1(ha:PT X a tA):PW X (.BoolOp .Or [a] pos) tA:=by
 intro wh pins s σ H Q I h;refine isTrue_or (thn (ha pins s σ H Q I h) fun c s1 e=>?_);cases c with
 |false=>exact isTrue_or_nil e
 |true=>exact e
theorem pw_and(ha:PT X a tA)(hb:PW X (.BoolOp .And (b::rest) pos) tB'):PW X (.BoolOp .And (a::b::rest) pos) (sF tA tB'):=by
 intro wh pins s σ H Q I h;refine isTrue_and (thn (ha pins s σ H _ I h) fun c s1 ⟨H1,I1,q1⟩=>?_);cases c with
 |true=>exact hb wh pins s1 σ H1 Q I1 q1
 |false=>exact⟨H1,I1,q1⟩
theorem pw_or(ha:PT X a tA)(hb:PW X (.BoolOp .Or (b::rest) pos) tB'):PW X (.BoolOp .Or (a::b::rest) pos) (tOr tA tB'):=by
 intro wh pins s σ H Q I h;refine isTrue_or (thn (ha pins s σ H _ I h) fun c s1 ⟨H1,I1,q1⟩=>?_);cases c with
 |true=>exact⟨H1,I1,q1⟩
 |false=>exact hb wh pins s1 σ H1 Q I1 q1
theorem K0(ha:PT X a tA):PT X (.UnaryOp .Not a pos) (fh tA):=by intro pins s σ H Q I h;exact isTrue_not (ha pins s σ H (fun c H1=>Q (!c) H1) I h)
noncomputable def Jl(ta tb:TE):TE:=fun σ H Q=>ta σ H fun x H1=>∃c,x=.bl c/\if c=true then tb σ H1 Q else Q (.bl false) H1
noncomputable def Oc(ta tb:TE):TE:=fun σ H Q=>ta σ H fun x H1=>∃c,x=.bl c/\if c=true then Q (.bl true) H1 else tb σ H1 Q
noncomputable def Jm(ta:TE):TE:=fun σ H Q=>ta σ H fun x H1=>∃c,x=.bl c/\Q (.bl (!c)) H1
theorem K1{op}{t:TE}(h:PE X a t):PE X (.BoolOp op [a] pos) t:=fun pins s σ H Q I hw=>BoolOp_one (h pins s σ H Q I hw)
theorem K2(ha:PE X a ta)(hb:PE X (.BoolOp .And (b::rest) pos) tb):PE X (.BoolOp .And (a::b::rest) pos) (Jl ta tb):=by
 intro pins s σ H Q I h;refine BoolOp_and (thn (ha pins s σ H _ I h) fun v s1 ⟨x,H1,I1,r1,q1⟩=>?_);obtain⟨c,rfl,q1⟩:=q1;cases r1;refine wpAny_truthy_bool ?_;cases c with
 |true=>exact hb pins s1 σ H1 Q I1 q1
 |false=>exact⟨.bl false,H1,I1,rfl,q1⟩
theorem Od(ha:PE X a ta)(hb:PE X (.BoolOp .Or (b::rest) pos) tb):PE X (.BoolOp .Or (a::b::rest) pos) (Oc ta tb):=by
 intro pins s σ H Q I h;refine BoolOp_or (thn (ha pins s σ H _ I h) fun v s1 ⟨x,H1,I1,r1,q1⟩=>?_);obtain⟨c,rfl,q1⟩:=q1;cases r1;refine wpAny_truthy_bool ?_;cases c with
 |false=>exact hb pins s1 σ H1 Q I1 q1
 |true=>exact⟨.bl true,H1,I1,rfl,q1⟩
theorem K3(ha:PE X a ta):PE X (.UnaryOp .Not a pos) (Jm ta):=by intro pins s σ H Q I h;refine UnaryOp_ (thn (ha pins s σ H _ I h) fun v s1 ⟨x,H1,I1,r1,q1⟩=>?_);obtain⟨c,rfl,q1⟩:=q1;cases r1;exact not_of (wpAny_truthy_bool ⟨.bl (!c),H1,I1,rfl,q1⟩)
noncomputable def tIf(t:TT)(ta tb:TE):TE:=fun σ H Q=>t σ H fun c H1=>if c=true then ta σ H1 Q else tb σ H1 Q
theorem Cp{c:Expr}(hc:PT X c tA)(ha:PE X a ta)(hb:PE X b tb):PE X (.IfExp c a b pos) (tIf tA ta tb):=by
 intro pins s σ H Q I h;refine wpAny_IfExp (thn (hc pins s σ H _ I h) fun d s1 ⟨H1,I1,q1⟩=>?_);cases d with
 |true=>exact ha pins s1 σ H1 Q I1 q1
 |false=>exact hb pins s1 σ H1 Q I1 q1
end
noncomputable def SqL(K:gV)(H:Hp)(a:Addr)(xs:List V):Prop:=
 Rd H a (.lst xs) \/
  ∃(o:Obj) (its:Array Value) (n:Nat),K.lookup a=some o/\o.cls=.type "list" /\ o.dict=none/\o.data=.seq its n/\its.size<=sizeLine/\Vals xs its.toList
noncomputable def SqT(K:gV)(H:Hp)(a:Addr)(xs:List V):Prop:=
 Rd H a (.tup xs) \/
  ∃(o:Obj) (its:Array Value) (n:Nat),K.lookup a=some o/\o.cls=.type "tuple" /\ o.data=.seq its n/\its.size<=sizeLine/\Vals xs its.toList
noncomputable def Rc:Value->Option V
 |.none=>some .non
 |.bool b=>some (.bl b)
 |.int i _=>some (.int i)
 |.str x _=>some (.str x)
 |.bytes b _=>some (.byt b)
 |.float b _=>some (.flt b)
 |.ref a=>some (.ref a)
 |.type n=>some (.ty n)
 |_=>none
theorem RelV.abs{x:V}{u:Value}(r:RelV x u):Rc u=some x:=by
 cases x with
 |non=>cases r;rfl
 |bl _=>cases r;rfl
 |int _=>obtain⟨t,rfl⟩:=r;rfl
 |str _=>obtain⟨t,rfl⟩:=r;rfl
 |byt _=>obtain⟨t,rfl⟩:=r;rfl
 |flt _=>obtain⟨t,rfl⟩:=r;rfl
 |ref _=>cases r;rfl
 |ty _=>cases r;rfl
theorem RelV.inj{x y:V}{u:Value}(r:RelV x u)(q:RelV y u):x=y:=Option.some.inj (r.abs.symm.trans q.abs)
theorem Vals.inj:∀{xs ys:List V} {us:List Value},Vals xs us->Vals ys us->xs=ys
 |_,_,_,.nil,.nil=>rfl
 |_,_,_,.cons r t,.cons r' t'=>by rw[r.inj r',Vals.inj t t']
section
variable{X:Cx}{pins:List (Addr×Obj)}{σ:St}{H:Hp}{s:Shared}{a:Addr}{xs ys:List V}
theorem SqT.of{K:gV}(h:H a=some (.tup xs)):SqT K H a xs:=.inl (.inl h)
theorem Inv.list(I:Inv X pins σ H s)(h:SqL X.K H a xs):∃its:List Value,Vals xs its/\PlainL s.heap a its.toArray/\xs.length<=sizeLine:=by
 rcases h with h | ⟨o,its,n,hk,hc,hd,hs,hz,r⟩
 ·obtain⟨z,its,n,r,e⟩:=h.ok I.hok;exact⟨its,r,⟨_,n,e,rfl,rfl,rfl⟩,z⟩
 ·refine⟨its.toList,r,⟨o,n,I.kIn a o hk,hc,hd,by simpa using hs⟩,?_⟩;have e:=r.length;simp only[UL]at e;omega
theorem Inv.tuple(I:Inv X pins σ H s)(h:SqT X.K H a xs):∃its:List Value,Vals xs its/\IsTup s.heap a its.toArray/\xs.length<=sizeLine:=by
 rcases h with h | ⟨o,its,n,hk,hc,hs,hz,r⟩
 ·obtain⟨z,its,r,p⟩:=h.ok I.hok;exact⟨its,r,p,z⟩
 ·refine⟨its.toList,r,⟨o,I.kIn a o hk,hc,n,by simpa using hs⟩,?_⟩;have e:=r.length;simp only[UL]at e;omega
theorem Inv.iM(I:Inv X pins σ H s)(h:SqL X.K H a xs)(h':SqL X.K H a ys):xs=ys:=by
 obtain⟨its,r,⟨o,n,e,_,_,d⟩,_⟩:=I.list h;obtain⟨its',r',⟨o',n',e',_,_,d'⟩,_⟩:=I.list h';rw[e]at e';cases e';rw[d]at d';injection d' with d1 _
 have:its=its':=by simpa using congrArg Array.toList d1
 subst this;exact r.inj r'
theorem Inv.A_(I:Inv X pins σ H s)(h:SqT X.K H a xs)(h':SqT X.K H a ys):xs=ys:=by
 obtain⟨its,r,⟨o,e,_,n,d⟩,_⟩:=I.tuple h;obtain⟨its',r',⟨o',e',_,n',d'⟩,_⟩:=I.tuple h';rw[e]at e';cases e';rw[d]at d';injection d' with d1 _
 have:its=its':=by simpa using congrArg Array.toList d1
 subst this;exact r.inj r'
end
noncomputable abbrev Cx.sG(X:Cx)(E:Value->Shared->Prop):Cx:={ X with xe:=E }
noncomputable abbrev Cx.nox(X:Cx):Cx:=X.sG fun _ _=>False
theorem Cx.Ok.sG{X:Cx}(ok:X.Ok)(E:Value->Shared->Prop):(X.sG E).Ok:=
 ⟨ok.mod,ok.kind,ok.glob,ok.blt,ok.above,ok.inj,ok.has,ok.cab,ok.hd,ok.frames,ok.stk,ok.exf,ok.bs,ok.bsz,ok.Cn,ok.GH,ok.oX,ok.frf⟩
theorem Cx.Ok.iN{X:Cx}{E:Value->Shared->Prop}(ok:(X.sG E).Ok):X.Ok:=
 ⟨ok.mod,ok.kind,ok.glob,ok.blt,ok.above,ok.inj,ok.has,ok.cab,ok.hd,ok.frames,ok.stk,ok.exf,ok.bs,ok.bsz,ok.Cn,ok.GH,ok.oX,ok.frf⟩
section
variable{X:Cx}{pins:List (Addr×Obj)}{σ:St}{H:Hp}{s:Shared}{E:Value->Shared->Prop}
theorem Inv.sG(I:Inv X pins σ H s)(E:Value->Shared->Prop):Inv (X.sG E) pins σ H s:=⟨I.ok.sG E,I.os,I.bare,I.base,I.loc,I.cell,I.free,I.dG,I.pin,I.hok,I.len⟩
theorem Inv.iN(I:Inv (X.sG E) pins σ H s):Inv X pins σ H s:=⟨I.ok.iN,I.os,I.bare,I.base,I.loc,I.cell,I.free,I.dG,I.pin,I.hok,I.len⟩
theorem SP.iN{D:Ends}{f:Flow}{s':Shared}(h:SP (X.sG E) pins D f s'):SP X pins D f s':=by
 cases f with
 |next=>obtain⟨σ',H',I,q⟩:=h;exact⟨σ',H',I.iN,q⟩
 |brk=>obtain⟨σ',H',I,q⟩:=h;exact⟨σ',H',I.iN,q⟩
 |cont=>obtain⟨σ',H',I,q⟩:=h;exact⟨σ',H',I.iN,q⟩
 |ret u=>obtain⟨v,σ',H',I,r,q⟩:=h;exact⟨v,σ',H',I.iN,r,q⟩
theorem PSs.nox{st:List Stmt}{t:TS}(h:PSs X.nox st t):PSs X st t:=fun pins s σ H D I hw=>wpAny_mono (h pins s σ H D (I.sG _) hw) (fun _ _ q=>q.iN) fun _ _ z=>SQ z
end
section
variable{X:Cx}{st:Stmt}{rest:List Stmt}{t u:TS}{e:Expr}{te:TE}{pos:Pos}
noncomputable def Cq:TS:=fun D σ H=>D.nx σ H
noncomputable def sH(t u:TS):TS:=fun D σ H=>t { D with nx:=u D } σ H
theorem z0:PSs X [] Cq:=fun _ _ σ H _ I h=>wpAny_execs_nil ⟨σ,H,I,h⟩
theorem fk(h1:PS X st t)(h2:PSs X rest u):PSs X (st::rest) (sH t u):=by
 intro pins s σ H D I h;refine wpAny_execs_cons (thn (h1 pins s σ H { D with nx:=u D } I h) fun f s1 q=>?_);cases f with
 |next=>obtain⟨σ',H',I',q⟩:=q;exact h2 pins s1 σ' H' D I' q
 |ret v=>exact q
 |brk=>exact q
 |cont=>exact q
theorem uD(h1:PS X st t):PSs X [st] t:=by
 intro pins s σ H D I h;refine wpAny_execs_cons (thn (h1 pins s σ H D I h) fun f s1 q=>?_);cases f with
 |next=>exact wpAny_execs_nil q
 |ret v=>exact q
 |brk=>exact q
 |cont=>exact q
theorem Inv.quiet{pins:List (Addr×Obj)}{σ:St}{H:Hp}{s:Shared}(I:Inv X pins σ H s):interactive X.env=false:=by simp[interactive,I.ok.kind]
noncomputable def tw(te:TE):TS:=fun D σ H=>te σ H fun _ H1=>D.nx σ H1
theorem jB(he:PE X e te)(hs:swapsWith e none pos.line X.env=pure false:=by rfl):PS X (.Expr e pos) (tw te):=by intro pins s σ H D I h;exact wpAny_Expr_any (thn (he pins s σ H _ I h) fun v s1 ⟨x,H1,I1,r1,q1⟩=>⟨σ,H1,I1,q1⟩) I.quiet hs
noncomputable def Oe(te:TE):TS:=fun D σ H=>te σ H D.rt
theorem K4(he:PE X e te):PS X (.Return (some e) pos) (Oe te):=by intro pins s σ H D I h;exact wpAny_Return_some (thn (he pins s σ H _ I h) fun v s1 ⟨x,H1,I1,r1,q1⟩=>⟨x,σ,H1,I1,r1,q1⟩)
noncomputable def K5(c:TT)(t u:TS):TS:=fun D σ H=>c σ H fun b H1=>if b=true then t D σ H1 else u D σ H1
theorem Cr{c:Expr}{a b:List Stmt}{tc:TT}(hc:PT X c tc)(ha:PSs X a t)(hb:PSs X b u):PS X (.If c a b pos) (K5 tc t u):=by
 intro pins s σ H D I h;refine wpAny_If (thn (hc pins s σ H _ I h) fun d s1 ⟨H1,I1,q1⟩=>?_);cases d with
 |true=>exact ha pins s1 σ H1 D I1 q1
 |false=>exact hb pins s1 σ H1 D I1 q1
noncomputable def K6:TS:=fun _ _ _=>False
theorem Cs:PS X st K6:=fun _ _ _ _ _ _ h=>h.elim
end
noncomputable abbrev TG:=V->St->Hp->(St->Hp->Prop)->Prop
noncomputable abbrev TGs:=List V->St->Hp->(St->Hp->Prop)->Prop
noncomputable def PG(X:Cx)(target:Expr)(t:TG):Prop:=
 ∀(pins:List (Addr×Obj)) (s:Shared) (σ:St) (H:Hp) (v:V) (u:Value) (Q:St->Hp->Prop),Inv X pins σ H s->RelV v u->t v σ H Q ->
  wpAny (model X.prog X.w) X.A (assign target X.env u) (fun _ s'=>∃σ' H',Inv X pins σ' H' s'/\Q σ' H') X.xe s
noncomputable def PGs(X:Cx)(ts:List Expr)(t:TGs):Prop:=
 ∀(pins:List (Addr×Obj)) (s:Shared) (σ:St) (H:Hp) (vs:List V) (us:List Value) (Q:St->Hp->Prop),Inv X pins σ H s->Vals vs us->t vs σ H Q ->
  wpAny (model X.prog X.w) X.A (assignInOrder ((assignEach ts X.env).map (·.2)) us) (fun _ s'=>∃σ' H',Inv X pins σ' H' s'/\Q σ' H') X.xe s
noncomputable abbrev K7:=V->V->V->Hp->(Hp->Prop)->Prop
noncomputable def Of(X:Cx)(t:K7):Prop:=
 ∀(pins:List (Addr×Obj)) (s:Shared) (σ:St) (H:Hp) (o i v:V) (ov iv u:Value) (Q:Hp->Prop),Inv X pins σ H s->RelV o ov->RelV i iv->RelV v u->t o i v H Q ->
  wpAny (model X.prog X.w) X.A (setItem ov iv u) (fun _ s'=>∃H',Inv X pins σ H' s'/\Q H') X.xe s
section
variable{X:Cx}{pos:Pos}
noncomputable def iO(i:Nat):TG:=fun v σ H Q=>Q (σ.set i (some v)) H
theorem uE{i:Nat}{x:Str}(hN:X.N.Nodup)(hi:X.N[i]?=some x)(hx:Loc X.env.scope x)(hf:X.fn x=true\/X.env.scope.names.lookup x=some .local:=by trivial):PG X (.Name x pos) (iO i):=by intro pins s σ H v u Q I r h;exact wpAny_assign_Name (vO I hN hi hx r (fun s' I'=>⟨_,H,I',h⟩) hf)
noncomputable def Og:TGs:=fun vs σ H Q=>vs=[]/\Q σ H
noncomputable def Jo(t:TG)(u:TGs):TGs:=fun vs σ H Q=>∃v r,vs=v::r/\t v σ H fun σ' H'=>u r σ' H' Q
theorem GJ:PGs X [] Og:=by intro pins s σ H vs us Q I r h;obtain⟨e,h⟩:=h;subst e;cases r;exact assignInOrder_nil ⟨σ,H,I,h⟩
theorem Ct{e:Expr}{es:List Expr}{t:TG}{u:TGs}(h1:PG X e t)(h2:PGs X es u)
  (hs:(assignEach (e::es) X.env).map (·.2)=assign e X.env::(assignEach es X.env).map (·.2):=by rfl):PGs X (e::es) (Jo t u):=by
 intro pins s σ H vs us Q I r h;obtain⟨v,vr,e1,h⟩:=h;subst e1;cases r with
 |cons r rr=>rw[hs];refine assignInOrder_cons (thn (h1 pins s σ H _ _ _ I r h) fun _ s1 ⟨σ1,H1,I1,q1⟩=>?_);exact h2 pins s1 σ1 H1 _ _ Q I1 rr q1
noncomputable def K8(K:gV)(n:Nat)(t:TGs):TG:=fun v σ H Q=>∃a xs,v=.ref a/\SqT K H a xs/\xs.length=n/\t xs σ H Q
theorem yz{es:List Expr}{k:Nat}{t:TGs}{n:Nat}(hc:X.calm=true)(h:PGs X es t)
  (hn:(assignEach es X.env).length=n:=by rfl) (hst:(assignEach es X.env).findIdx? (·.1)=none:=by rfl):PG X (.Tuple es k pos) (K8 X.K n t):=by
 intro pins s σ H v u Q I r hw;obtain⟨a,xs,e1,hq,hl,hw⟩:=hw;subst e1;cases r;obtain⟨its,rv,ht,hz⟩:=I.tuple hq;refine assign_Tuple_tuple (I.ok.hd hc) ht (by simp[hn,<- hl,rv.length]) hst fun h' hx=>?_;have I1:Inv X pins σ H { s with heap:=h' }:=I.kept (t':=s.toks) fun b o e=>hx b o (S0 (SD e)) e;exact h pins _ σ H xs _ Q I1 (by simpa using rv) hw
noncomputable def iF(to ti:TE)(t:K7):TG:=fun v σ H Q=>to σ H fun o H1=>ti σ H1 fun i H2=>t o i v H2 fun H3=>Q σ H3
theorem K9{o i:Expr}{to ti:TE}{t:K7}(ho:PE X o to)(hi:PE X i ti)(hs:Of X t)
  (ha:∀ v,assign (.Subscript o i pos) X.env v=(do
   let ov <- holding [v] (eval o X.env)
   let iv <- holding [v,ov] (eval i X.env)
   standAt pos
   holding [v,ov,iv] (setItem ov iv v)
   release [v,ov,iv] []):=by intro _;rfl):PG X (.Subscript o i pos) (iF to ti t):=by
 intro pins s σ H v u Q I r h;rw[ha];refine wpAny_bind (wpAny_holding (thn (ho pins s σ H _ I h) fun ov s1 ⟨x,H1,I1,r1,q1⟩=>?_));refine wpAny_bind (wpAny_holding (thn (hi pins s1 σ H1 _ I1 q1) fun iv s2 ⟨y,H2,I2,r2,q2⟩=>?_));refine wpAny_bind (wpAny_standAt (wpAny_bind (wpAny_holding (thn (hs pins s2 σ H2 x y v ov iv u _ I2 r1 r2 r q2) fun _ s3 ⟨H3,I3,q3⟩=>?_))));exact wpAny_release ⟨σ,H3,I3,q3⟩
noncomputable def uF(te:TE)(g:TG):TS:=fun D σ H=>te σ H fun x H1=>g x σ H1 D.nx
theorem Cu{tg e:Expr}{te:TE}{g:TG}(he:PE X e te)(hg:PG X tg g)(hs:swapsWithSole [tg] e pos.line X.env=pure false:=by rfl)(hw:swappedStores [tg] e X.env=pure none:=by rfl)
  (h1:(assignEach [tg] X.env).map (·.2)=[assign tg X.env]:=by rfl):PS X (.Assign [tg] e pos) (uF te g):=by
 intro pins s σ H D I h;refine wpAny_Assign_stores (thn (he pins s σ H _ I h) fun v s1 ⟨x,H1,I1,r1,q1⟩=>?_) hs hw;rw[h1];exact thn (hg pins s1 σ H1 x v _ I1 r1 q1) fun _ s2 q=>q
theorem Cv{i:Nat}{x:Str}{e:Expr}{te:TE}{pos':Pos}(hN:X.N.Nodup)(hi:X.N[i]?=some x)(hx:Loc X.env.scope x)(he:PE X e te)(hs:swapsWith e (some (.Name x pos')) pos.line X.env=pure false:=by rfl)(hf:X.fn x=true\/X.env.scope.names.lookup x=some .local:=by trivial) :
  PS X (.Assign [.Name x pos'] e pos) (uF te (iO i)):=by
 intro pins s σ H D I h;refine wpAny_Assign_Name (thn (he pins s σ H _ I h) fun v s1 ⟨y,H1,I1,r1,q1⟩=>?_) hs;exact vO I1 hN hi hx r1 (fun s2 I2=>⟨_,H1,I2,q1⟩) hf
end
section
variable{X:Cx}{pos:Pos}
noncomputable def Cw(c:TT)(tb:TS):TS:=fun D σ H=>∃W:Nat->St->Hp->Prop,(∃m,W m σ H)/\∀m σ H,W m σ H ->
 c σ H fun b H1=>if b=true then ∃N:St->Hp->Prop,(∀σ' H',N σ' H'->∃m',m'<m/\W m' σ' H')/\tb { D with nx:=N,ct:=N,bk:=D.nx } σ H1 else D.nx σ H1
theorem Cy{c:Expr}{body:List Stmt}{tc:TT}{tb:TS}(hp:PassesOwn (model X.prog X.w) X.A X.env X.xe)(hc:PT X c tc)(hb:PSs X body tb):PS X (.While c body [] pos) (Cw tc tb):=by
 intro pins s σ H D I h;obtain⟨W,⟨m0,w0⟩,turn⟩:=h;refine wpAny_While (codeAny_whileLoop (fun n s'=>∃σ' H',Inv X pins σ' H' s'/\W n σ' H') ?_ m0 ⟨σ,H,I,w0⟩);rintro n s1 ⟨σ1,H1,I1,w1⟩;refine wpAny_passesOwn hp (thn (hc pins s1 σ1 H1 _ I1 (turn n σ1 H1 w1)) fun b s2 ⟨H2,I2,q2⟩=>?_);cases b with
 |true=>
  obtain⟨N,hN,q2⟩:=q2;rw[if_pos rfl];refine wpAny_passesOwn hp (thn (hb pins s2 σ1 H2 _ I2 q2) fun f s3 q3=>?_);cases f with
  |next=>obtain⟨σ3,H3,I3,n3⟩:=q3;obtain⟨m',hm,w3⟩:=hN σ3 H3 n3;exact⟨m',hm,σ3,H3,I3,w3⟩
  |cont=>obtain⟨σ3,H3,I3,n3⟩:=q3;obtain⟨m',hm,w3⟩:=hN σ3 H3 n3;exact⟨m',hm,σ3,H3,I3,w3⟩
  |brk=>exact q3
  |ret v=>exact q3
 |false=>rw[if_neg Tf];exact wpAny_execs_nil ⟨σ1,H2,I2,q2⟩
end
structure It where
 go:Nat->Hp->Prop
 yld:Nat->Hp->V->Hp->Prop
 stop:Nat->Hp->Prop
noncomputable def sI(X:Cx)(pins:List (Addr×Obj))(H:Hp)(b:Addr):Prop:=
 H b=none/\b≠X.env.locals/\b∉X.fs/\(b∈X.ex\/X.s₀.heap.objs.size<=b)/\(∀x c,X.env.cells.lookup x=some c->c≠b)/\∀p∈X.pn++pins,p.1≠b
theorem Inv.vP{X:Cx}{pins:List (Addr×Obj)}{σ:St}{H H':Hp}{s:Shared}{b:Addr}(I:Inv X pins σ H s)(hb:s.heap.objs.size<=b)(hn:H' b=none):sI X pins H' b:=by
 refine⟨hn,Ux (SN I.lt hb),I.Ra hb,.inr (Tn I.sz hb),fun x c e z=>?_,fun p hp z=>?_⟩
 ·obtain⟨v,q⟩:=I.cell x c e;exact absurd (SN q.lt (by rw[z];exact hb)) (Tq _)
 ·exact absurd (SN (SD (I.pin p hp).1) (by rw[z];exact hb)) (Tq _)
structure Turn(P:Program)(w:World)(K:gV)(tg:Expr)(J:It)(fp:List Addr)(it:Addr)(tn:Nat->Heap->Prop):Prop where
 mem:it∈fp
 obj:∀i h,tn i h->∀b∈fp,∃o,h.get? b=some o/\∀v,o.data≠.cell v
 keep:∀i h h',tn i h->(∀b∈fp,∀o,h.get? b=some o->h'.get? b=some o)->tn i h'
 item:∀(X:Cx),X.prog=P->X.w=w->X.K=K->X.calm=true->∀(i:Nat) (pins:List (Addr×Obj)) (s:Shared) (σ:St) (H:Hp) (E:Value->Shared->Prop),Inv X pins σ H s->(∀b∈fp,sI X pins H b)->tn i s.heap->J.go i H ->
  wpAny (model P w) X.A (pyNext (.ref it)) (fun r s1=>∃ u,r=some u ∧
   wpAny (model P w) X.A (letOwnedTupleGo tg (.ref it) u) (fun _ s2=>∃x H',Inv X pins σ H' s2/\RelV x u/\J.yld i H x H'/\tn (i+1) s2.heap/\∀b∈fp,H' b=none) E s1) E s
 done:∀(X:Cx),X.prog=P->X.w=w->X.K=K->X.calm=true->∀(i:Nat) (pins:List (Addr×Obj)) (s:Shared) (σ:St) (H:Hp) (E:Value->Shared->Prop),Inv X pins σ H s->(∀b∈fp,sI X pins H b)->tn i s.heap->J.stop i H ->
  wpAny (model P w) X.A (pyNext (.ref it)) (fun r s1=>r=none/\Inv X pins σ H s1) E s
 self:∀(A:Around) (i:Nat) (s:Shared) (Q:Value->Shared->Prop) (E:Value->Shared->Prop),tn i s.heap->Q (.ref it) s->wpAny (model P w) A (pyIter (.ref it)) Q E s
noncomputable abbrev TI:=St->Hp->(It->Hp->Prop)->Prop
noncomputable def PIE(X:Cx)(pins:List (Addr×Obj))(σ:St)(tg:Expr)(R:It->Hp->Prop)(itv:Value)(s2:Shared):Prop:=
 ∃(it:Addr) (fp:List Addr) (tn:Nat->Heap->Prop) (J:It) (H':Hp),itv=.ref it/\Inv X pins σ H' s2/\Turn X.prog X.w X.K tg J fp it tn/\tn 0 s2.heap/\(∀b∈fp,sI X pins H' b)/\R J H'
noncomputable def PI(X:Cx)(tg iter:Expr)(wi:TI):Prop:=
 ∀(pins:List (Addr×Obj)) (s:Shared) (σ:St) (H:Hp) (R:It->Hp->Prop),Inv X pins σ H s->wi σ H R ->
  wpAny (model X.prog X.w) X.A (eval iter X.env) (fun v s1=>wpAny (model X.prog X.w) X.A (pyIter v) (PIE X pins σ tg R) X.xe s1) X.xe s
theorem tE{M:Model}{A:Around}{E:Value->Shared->Prop}{s:Shared}{tg:Expr}{it:Addr}{u:Value}{o:Obj}{n:String}{vs:Array Value}{Q:Unit->Shared->Prop}(ho:s.heap.get? it=some o)(hc:o.cls=.type n)(hd:o.data=.fields vs)
  (hn:["enumerate","zip","dict_itemiterator","dict_reverseitemiterator","odict_iterator","itertools.zip_longest","itertools.pairwise"].contains n=false) (hQ:Q () s):wpAny M A (letOwnedTupleGo tg (.ref it) u) Q E s:=by
 unfold letOwnedTupleGo;cases tg<;>first
  |exact wpAny_pure hQ
  | (cases u<;>first
    |exact wpAny_pure hQ
    | (refine wpAny_bind (wpAny_load ho ?_)
       rw[hc,hd];show wpAny M A (if (["enumerate","zip","dict_itemiterator","dict_reverseitemiterator","odict_iterator","itertools.zip_longest","itertools.pairwise"].contains n&&vs[0]? == some (rawInt _))=true then _ else _) Q E s;rw[if_neg (by intro h;rw[hn,Bool.false_and]at h;cases h)];exact wpAny_pure hQ))
noncomputable def Itl(K:gV)(a:Addr):It:=
 ⟨fun i H=>∃xs x,SqL K H a xs/\xs[i]?=some x,fun i H x H'=>H'=H/\∀xs,SqL K H a xs->xs[i]?=some x,fun i H=>∃xs,SqL K H a xs/\xs.length<=i⟩
noncomputable def Itt(K:gV)(a:Addr):It:=
 ⟨fun i H=>∃xs x,SqT K H a xs/\xs[i]?=some x,fun i H x H'=>H'=H/\∀xs,SqT K H a xs->xs[i]?=some x,fun i H=>∃xs,SqT K H a xs/\xs.length<=i⟩
noncomputable def Itr(lo:Int)(n:Nat):It:=⟨fun i _=>i<n,fun i H x H'=>H'=H/\x=.int (lo+i),fun i _=>n<=i⟩
theorem Ba{P:Program}{w:World}{K:gV}{tg:Expr}(a it:Addr):Turn P w K tg (Itl K a) [it] it (fun i h=>h.IsListIter it a i) where
 mem:=by simp
 obj:=fun i h st b hb=>by
  have e:b=it:=by simpa using hb
  subst e;obtain⟨o,e,c,d⟩:=st;exact⟨o,e,fun v z=>by rw[d]at z;cases z⟩
 keep:=fun i h h' st k=>st.at fun o e=>k it (by simp) o e
 item:=by intro X hP hw hK hc i pins s σ H E I hf st hg;subst hP hw hK;obtain⟨xs,x,hq,hx⟩:=hg;obtain⟨its,rv,p,hz⟩:=I.list hq;obtain⟨u,hu,ru⟩:=rv.get hx;obtain⟨f0,f1,f2,f3,f4,f5⟩:=hf it (by simp);refine wpAny_pyNext_list_item st p.isList (x:=u) (by simpa using hu) fun h' st' sb=>?_;have I1:Inv X pins σ H { s with heap:=h' }:=I.turned (t':=s.toks) (fun b o hb e=>(sb.2 b hb).trans e) f0 f1 f3 f4 f5;obtain⟨o,e,c,d⟩:=id st';exact⟨u,rfl,tE (s:={ s with heap:=h' }) e c d (by decide) ⟨x,H,I1,ru,⟨rfl,fun ys hy=>by rw[I.iM hy hq];exact hx⟩,st',fun b hb=>(hf b hb).1⟩⟩
 done:=by intro X hP hw hK hc i pins s σ H E I hf st hg;subst hP hw hK;obtain⟨xs,hq,hx⟩:=hg;obtain⟨its,rv,p,hz⟩:=I.list hq;obtain⟨f0,f1,f2,f3,f4,f5⟩:=hf it (by simp);have hl:=rv.length;exact wpAny_pyNext_list_end (I.ok.hd hc) st p.isList (by simp;omega) fun h' eb=>⟨rfl,I.turned (t':=s.toks) (fun b o hb e=>eb b o hb e) f0 f1 f3 f4 f5⟩
 self:=fun _ _ _ _ _ st h=>wpAny_pyIter_listiter st h
theorem yC{P:Program}{w:World}{K:gV}{tg:Expr}(a it:Addr):Turn P w K tg (Itt K a) [it] it (fun i h=>h.IsTupleIter it a i) where
 mem:=by simp
 obj:=fun i h st b hb=>by
  have e:b=it:=by simpa using hb
  subst e;obtain⟨o,e,c,d⟩:=st;exact⟨o,e,fun v z=>by rw[d]at z;cases z⟩
 keep:=fun i h h' st k=>st.at fun o e=>k it (by simp) o e
 item:=by intro X hP hw hK hc i pins s σ H E I hf st hg;subst hP hw hK;obtain⟨xs,x,hq,hx⟩:=hg;obtain⟨its,rv,p,hz⟩:=I.tuple hq;obtain⟨u,hu,ru⟩:=rv.get hx;obtain⟨f0,f1,f2,f3,f4,f5⟩:=hf it (by simp);refine wpAny_pyNext_tuple_item st (show s.heap.IsTuple a its.toArray from p) (x:=u) (by simpa using hu) fun h' st' sb=>?_;have I1:Inv X pins σ H { s with heap:=h' }:=I.turned (t':=s.toks) (fun b o hb e=>(sb.2 b hb).trans e) f0 f1 f3 f4 f5;obtain⟨o,e,c,d⟩:=id st';exact⟨u,rfl,tE (s:={ s with heap:=h' }) e c d (by decide) ⟨x,H,I1,ru,⟨rfl,fun ys hy=>by rw[I.A_ hy hq];exact hx⟩,st',fun b hb=>(hf b hb).1⟩⟩
 done:=by intro X hP hw hK hc i pins s σ H E I hf st hg;subst hP hw hK;obtain⟨xs,hq,hx⟩:=hg;obtain⟨its,rv,p,hz⟩:=I.tuple hq;obtain⟨f0,f1,f2,f3,f4,f5⟩:=hf it (by simp);have hl:=rv.length;exact wpAny_pyNext_tuple_end (I.ok.hd hc) st (show s.heap.IsTuple a its.toArray from p) (by simp;omega) fun h' eb=>⟨rfl,I.turned (t':=s.toks) (fun b o hb e=>eb b o hb e) f0 f1 f3 f4 f5⟩
 self:=fun _ _ _ _ _ st h=>wpAny_pyIter_tupleiter st h
theorem yD{P:Program}{w:World}{K:gV}{tg:Expr}(it:Addr)(lo:Int)(n:Nat):Turn P w K tg (Itr lo n) [it] it (fun i h=>IsRangeIter h it (lo+(i:Nat)*1) ((n:Int)-(i:Nat)) 1) where
 mem:=by simp
 obj:=fun i h st b hb=>by
  have e:b=it:=by simpa using hb
  subst e;exact ⟨_,st,fun v z=>by have z':VJ _=Vx v:=z;cases z'⟩
 keep:=fun i h h' st k=>k it (by simp) _ st
 item:=by intro X hP hw hK hc i pins s σ H E I hf st hg;subst hP hw hK;obtain⟨f0,f1,f2,f3,f4,f5⟩:=hf it (by simp);have W:=Walks.range (prog:=X.prog) (w:=X.w) (I.ok.hd hc) it lo 1 n;refine W.item i s _ _ hg st fun v h' tk hv st' kk=>?_;obtain⟨t,rfl⟩:=hv;have I1:Inv X pins σ H { s with heap:=h',toks:=tk }:=I.turned (fun b o hb e=>kk b o (by simpa using hb) e) f0 f1 f3 f4 f5;refine⟨_,rfl,tE (s:={ s with heap:=h',toks:=tk }) (n := "range_iterator") st' rfl rfl (by decide) ⟨.int (lo+i),H,I1,⟨t,?_⟩,⟨rfl,rfl⟩,st',fun b hb=>(hf b hb).1⟩⟩;rw[Int.mul_one]
 done:=by intro X hP hw hK hc i pins s σ H E I hf st hg;subst hP hw hK;obtain⟨f0,f1,f2,f3,f4,f5⟩:=hf it (by simp);exact wpAny_pyNext_range_end (I.ok.hd hc) st (by have:n<=i:=hg;omega) fun h' eb=>⟨rfl,I.turned (t':=s.toks) (fun b o hb e=>eb b o hb e) f0 f1 f3 f4 f5⟩
 self:=fun _ _ _ _ _ st h=>wpAny_pyIter_rangeiter st h
section
variable{X:Cx}{tg:Expr}
noncomputable def vQ(K:gV)(tl:TE):TI:=fun σ H R=>tl σ H fun x H1=>∃a,x=.ref a/\(∃xs,SqL K H1 a xs)/\R (Itl K a) H1
noncomputable def Cz(K:gV)(tl:TE):TI:=fun σ H R=>tl σ H fun x H1=>∃a,x=.ref a/\(∃xs,SqT K H1 a xs)/\R (Itt K a) H1
theorem z4{l:Expr}{tl:TE}(hl:PE X l tl):PI X tg l (vQ X.K tl):=by
 intro pins s σ H R I h;refine thn (hl pins s σ H _ I h) fun v s1 ⟨x,H1,I1,r1,q1⟩=>?_;obtain⟨a,e,⟨xs,hq⟩,q⟩:=q1;subst e;cases r1;obtain⟨its,rv,p,hz⟩:=I1.list hq;refine wpAny_pyIter_list p.isList ?_;refine⟨s1.heap.objs.size,[s1.heap.objs.size],_,_,H1,rfl,I1.kept (t':=s1.toks) fun b o e=>PU _ e,Ba a _,⟨_,SY _ rfl,rfl,rfl⟩,fun b hb=>?_,q⟩;have e:b=s1.heap.objs.size:=by simpa using hb
 subst e;exact I1.vP (Sz _) (I1.hok.fresh (Sz _))
theorem CA{l:Expr}{tl:TE}(hl:PE X l tl):PI X tg l (Cz X.K tl):=by
 intro pins s σ H R I h;refine thn (hl pins s σ H _ I h) fun v s1 ⟨x,H1,I1,r1,q1⟩=>?_;obtain⟨a,e,⟨xs,hq⟩,q⟩:=q1;subst e;cases r1;obtain⟨its,rv,p,hz⟩:=I1.tuple hq;refine wpAny_pyIter_tuple (show s1.heap.IsTuple a its.toArray from p) ?_;refine⟨s1.heap.objs.size,[s1.heap.objs.size],_,_,H1,rfl,I1.kept (t':=s1.toks) fun b o e=>PU _ e,yC a _,⟨_,SY _ rfl,rfl,rfl⟩,fun b hb=>?_,q⟩;have e:b=s1.heap.objs.size:=by simpa using hb
 subst e;exact I1.vP (Sz _) (I1.hok.fresh (Sz _))
theorem vR{pins:List (Addr×Obj)}{σ:St}{H:Hp}{s:Shared}{R:It->Hp->Prop}{E:Value->Shared->Prop}{lo hi:Int}{t u v:Tok}{tk:Nat}(I:Inv X pins σ H s)(h1:-(2 ^ 62)<=lo)(h2:lo<2 ^ 62)(h3:-(2 ^ 62)<=hi)(h4:hi<2 ^ 62)
  (q:R (Itr lo (hi-lo).toNat) H):wpAny (model X.prog X.w) X.A (pyIter (.ref s.heap.objs.size)) (PIE X pins σ tg R) E { s with heap:=s.heap.push { cls:=.type "range",data:=.fields #[.int lo t,.int hi u,.int 1 v] },toks:=tk }:=by
 refine wpAny_pyIter_range (IsRange.new ..) (small_one h1 h2 h3 h4) ?_;have I1:Inv X pins σ H { s with heap:=s.heap.push { cls:=.type "range",data:=.fields #[.int lo t,.int hi u,.int 1 v] },toks:=tk }:=I.kept fun b o e=>PU _ e;refine ⟨(s.heap.push { cls:=.type "range",data:=.fields #[.int lo t,.int hi u,.int 1 v] }).objs.size,[(s.heap.push { cls:=.type "range",data:=.fields #[.int lo t,.int hi u,.int 1 v] }).objs.size],_,_,H,rfl,
  I1.kept (t':=tk) fun b o e=>PU _ e,yD _ lo (hi-lo).toNat,?_,fun b hb=>?_,q⟩
 ·have e1:lo+((0:Nat):Int)*1=lo:=by simp
  have e2:(((hi-lo).toNat:Nat):Int)-((0:Nat):Int)=Builtin.Range.rangeSize lo hi 1:=by rw[rangeSize_one];split<;>omega
  show IsRangeIter _ _ (lo+((0:Nat):Int)*1) ((((hi-lo).toNat:Nat):Int)-((0:Nat):Int)) 1;rw[e1,e2];exact SY _ rfl
 ·have e:b=(s.heap.push { cls:=.type "range",data:=.fields #[.int lo t,.int hi u,.int 1 v] }).objs.size:=by simpa using hb
  subst e;exact I1.vP (Sz _) (I1.hok.fresh (Sz _))
noncomputable def Jp(ta:TA):TI:=fun σ H R=>ta σ H fun vs H1=>∃j:Int,vs=[.int j]/\-(2 ^ 62)<=j/\j<2 ^ 62/\R (Itr 0 j.toNat) H1
noncomputable def Jq(ta:TA):TI:=fun σ H R=>ta σ H fun vs H1=>∃i j:Int,vs=[.int i,.int j]/\(-(2 ^ 62)<=i/\i<2 ^ 62/\-(2 ^ 62)<=j/\j<2 ^ 62)/\R (Itr i (j-i).toNat) H1
theorem Bb{a:Expr}{ta:TA}{p pos:Pos}(hg:Gl X "range")(hm:X.mg "range" = none)(ha:PA X [a] ta)(hs:starEach [a] X.env=[(false,eval a X.env)]:=by rfl):PI X tg (.Call (.Name "range" p) [a] [] pos) (Jp ta):=by
 intro pins s σ H R I h;refine Call_ (fH I hg hm boot_range (Tj (thn (ha pos pins s σ H _ I h) fun us s1 ⟨vs,H1,I1,r1,q1⟩=>?_) hs rfl));obtain⟨j,e,q1,q2,q⟩:=q1;subst e;cases r1 with
 |cons r rr=>cases rr;obtain⟨t,rfl⟩:=r;exact call_range_1 (vR I1 (by omega) (by omega) q1 q2 (by simpa using q))
theorem Bc{a b:Expr}{ta:TA}{p pos:Pos}(hg:Gl X "range")(hm:X.mg "range" = none)(ha:PA X [a,b] ta)(hs:starEach [a,b] X.env=[(false,eval a X.env),(false,eval b X.env)]:=by rfl)(hs2:starEach [b] X.env=[(false,eval b X.env)]:=by rfl) :
  PI X tg (.Call (.Name "range" p) [a,b] [] pos) (Jq ta):=by
 intro pins s σ H R I h;refine Call_ (fH I hg hm boot_range (Tj (thn (ha pos pins s σ H _ I h) fun us s1 ⟨vs,H1,I1,r1,q1⟩=>?_) (by rw[hs,hs2]) (by rw[hs2];rfl)));obtain⟨i,j,e,⟨q1,q2,q3,q4⟩,q⟩:=q1;subst e;cases r1 with
 |cons r rr=>
  cases rr with
  |cons r' rr=>cases rr;obtain⟨t,rfl⟩:=r;obtain⟨t',rfl⟩:=r';exact call_range_2 (vR I1 q1 q2 q3 q4 q)
noncomputable def CB(wi:TI)(g:TG)(tb:TS):TS:=fun D σ H=>wi σ H fun J H1=>∃W:Nat->Nat->St->Hp->Prop,(∃m,W 0 m σ H1)/\∀i m σ H,W i m σ H ->
 (J.stop i H/\D.nx σ H)\/(J.go i H/\∃N:St->Hp->Prop,(∀σ' H',N σ' H'->∃m',m'<m/\W (i+1) m' σ' H')/\∀x H',J.yld i H x H'->g x σ H' fun σ2 H2=>tb { D with nx:=N,ct:=N,bk:=D.nx } σ2 H2)
noncomputable def pM(fp:List Addr)(h:Heap):List (Addr×Obj):=fp.filterMap fun b=>(h.get? b).map fun o=>(b,o)
theorem gR{fp:List Addr}{h:Heap}{b:Addr}{o:Obj}(hb:b∈fp)(e:h.get? b=some o):(b,o)∈pM fp h:=UQ.mpr ⟨b,hb,by rw[e];rfl⟩
theorem Bd{fp:List Addr}{h:Heap}{p:Addr×Obj}(hp:p∈pM fp h):p.1∈fp/\h.get? p.1=some p.2:=by
 obtain⟨b,hb,e⟩:=UQ.mp hp;cases q:h.get? b with
 |none=>rw[q]at e;cases e
 |some o=>rw[q]at e;have e':(b,o)=p:=Option.some.inj e;subst e';exact⟨hb,q⟩
theorem Inv.pinned{pins:List (Addr×Obj)}{σ:St}{H:Hp}{s:Shared}{fp:List Addr}(I:Inv X pins σ H s)(hf:∀b∈fp,sI X pins H b)(ho:∀b∈fp,∃o,s.heap.get? b=some o/\∀v,o.data≠.cell v):Inv X (pins++pM fp s.heap) σ H s:=
 I.zY fun p hp=>(Te.mp hp).elim (fun z=>I.pin p (S9 _ z)) fun z=>by obtain⟨hb,e⟩:=Bd z;obtain⟨f0,f1,f2,_⟩:=hf p.1 hb;obtain⟨o,e',d⟩:=ho p.1 hb;rw[e]at e';cases e';exact⟨e,f0,f1,f2,d⟩
theorem Inv.lR{pins pl:List (Addr×Obj)}{σ:St}{H:Hp}{s:Shared}(I:Inv X (pins++pl) σ H s):Inv X pins σ H s:=I.zY fun p hp=>I.pin p (S9 _ (To _ hp))
theorem yE{iter:Expr}{body:List Stmt}{wi:TI}{g:TG}{tb:TS}{pos:Pos}(hp:PassesOwn (model X.prog X.w) X.A X.env X.xe)(hc:X.calm=true)(hi:PI X tg iter wi)(hg:PG X tg g)(hb:PSs X body tb)
  (hs:∀x,foldedSetIterable iter X.env x=pure x:=by intro _;rfl):PS X (.For tg iter body [] pos) (CB wi g tb):=by
 intro pins s σ H D I h;refine wpAny_For (thn (hi pins s σ H _ I h) fun v s1 h1=>thn h1 fun itv s2 h2=>?_) hs;obtain⟨it,fp,tn,J,H2,e,I2,T,st2,f2,W,⟨m0,w0⟩,turn⟩:=h2;subst e;have stat:∀{H':Hp},(∀b∈fp,H' b=none)->∀b∈fp,sI X pins H' b:=fun hn b hb=>⟨hn b hb,(f2 b hb).2⟩;refine codeAny_forLoop_any (fun n s'=>∃i σ' H',Inv X pins σ' H' s'/\tn i s'.heap/\(∀b∈fp,H' b=none)/\W i n σ' H') ?_ m0 ⟨0,σ,H2,I2,st2,fun b hb=>(f2 b hb).1,w0⟩;rintro n s3 ⟨i,σ3,H3,I3,st3,fr3,w3⟩;rcases turn i n σ3 H3 w3 with⟨stop,qn⟩ | ⟨go,N,hN,step⟩
 ·refine wpAny_passesOwn hp (thn (T.done X rfl rfl rfl hc i pins s3 σ3 H3 X.xe I3 (stat fr3) st3 stop) fun r s4 ⟨hr,I4⟩=>?_);subst hr;exact wpAny_execs_nil ⟨σ3,H3,I4,qn⟩
 ·refine wpAny_passesOwn hp (thn (T.item X rfl rfl rfl hc i pins s3 σ3 H3 X.xe I3 (stat fr3) st3 go) fun r s4 ⟨u,hr,h4⟩=>?_);subst hr;refine wpAny_passesOwn hp (thn h4 fun _ s5 ⟨x,H5,I5,r5,y5,st5,fr5⟩=>?_);have I5':=I5.pinned (stat fr5) (T.obj _ _ st5);refine wpAny_passesOwn hp (thn (hg _ s5 σ3 H5 x u _ I5' r5 (step x H5 y5)) fun _ s6 ⟨σ6,H6,I6,q6⟩=>?_);refine wpAny_passesOwn hp (thn (hb _ s6 σ6 H6 _ I6 q6) fun f s7 q7=>?_);have again:∀{σ7:St} {H7:Hp},Inv X (pins++pM fp s5.heap) σ7 H7 s7->N σ7 H7->∃m,m<n/\∃i σ' H',Inv X pins σ' H' s7/\tn i s7.heap/\(∀b∈fp,H' b=none)/\W i m σ' H':=fun {σ7 H7} I7 n7=>by
   obtain⟨m',hm,w7⟩:=hN σ7 H7 n7;refine⟨m',hm,i+1,σ7,H7,I7.lR,T.keep _ _ _ st5 fun b hb o e=>(I7.pin (b,o) (S9 _ (S9 _ (gR hb e)))).1,fun b hb=>?_,w7⟩;obtain⟨o,e,d⟩:=T.obj _ _ st5 b hb;exact(I7.pin (b,o) (S9 _ (S9 _ (gR hb e)))).2.1
  cases f with
  |next=>obtain⟨σ7,H7,I7,n7⟩:=q7;exact again I7 n7
  |cont=>obtain⟨σ7,H7,I7,n7⟩:=q7;exact again I7 n7
  |brk=>obtain⟨σ7,H7,I7,q7⟩:=q7;exact⟨σ7,H7,I7.lR,q7⟩
  |ret v=>obtain⟨x7,σ7,H7,I7,r7,q7⟩:=q7;exact⟨x7,σ7,H7,I7.lR,r7,q7⟩
end
noncomputable abbrev R2:=V->V->Hp->VK->Prop
noncomputable def OpR(X:Cx)(f:Value->Value->Sem Value)(r:R2):Prop:=
 ∀(pins:List (Addr×Obj)) (s:Shared) (σ:St) (H:Hp) (x y:V) (v u:Value) (Q:VK),Inv X pins σ H s->RelV x v->RelV y u->r x y H Q ->
  wpAny (model X.prog X.w) X.A (f v u) (EP X pins σ Q) X.xe s
noncomputable def fm(X:Cx)(f:Value)(r:List V->Hp->VK->Prop):Prop:=
 ∀(pins:List (Addr×Obj)) (s:Shared) (σ:St) (H:Hp) (xs:List V) (us:List Value) (Q:VK),Inv X pins σ H s->Vals xs us->r xs H Q ->
  wpAny (model X.prog X.w) X.A (call f us) (EP X pins σ Q) X.xe s
noncomputable def Rf(X:Cx)(r:V->Hp->(Bool->Hp->Prop)->Prop):Prop:=
 ∀(pins:List (Addr×Obj)) (s:Shared) (σ:St) (H:Hp) (x:V) (v:Value) (Q:Bool->Hp->Prop),Inv X pins σ H s->RelV x v->r x H Q ->
  wpAny (model X.prog X.w) X.A (truthy v) (TP X pins σ Q) X.xe s
noncomputable def tOp(r:R2)(ta tb:TE):TE:=fun σ H Q=>ta σ H fun x H1=>tb σ H1 fun y H2=>r x y H2 Q
noncomputable def tUn(r:V->Hp->VK->Prop)(ta:TE):TE:=fun σ H Q=>ta σ H fun x H1=>r x H1 Q
noncomputable def rI(C:Int->Int->Prop)(g:Int->Int->V):R2:=fun x y H Q=>∃i j,x=.int i/\y=.int j/\C i j/\Q (g i j) H
noncomputable def rI0(g:Int->Int->V):R2:=fun x y H Q=>∃i j,x=.int i/\y=.int j/\Q (g i j) H
section
variable{X:Cx}{a b c:Expr}{ta tb tc:TE}{pos:Pos}
theorem K_(ha:PE X a ta)(hb:PE X b tb){pins:List (Addr×Obj)}{s:Shared}{σ:St}{H:Hp}{R:V->V->Hp->Prop}(I:Inv X pins σ H s)
  (h:ta σ H fun x H1=>tb σ H1 fun y H2=>R x y H2) {Q:Value->Shared->Prop} {f:Value->Value->Sem Value}
  (hf:∀v u s2 x y H2,Inv X pins σ H2 s2->RelV x v->RelV y u->R x y H2->wpAny (model X.prog X.w) X.A (f v u) Q X.xe s2) :
  wpAny (model X.prog X.w) X.A (eval a X.env) (fun v s₁=>wpAny (model X.prog X.w) X.A (eval b X.env) (fun u s₂=>wpAny (model X.prog X.w) X.A (f v u) Q X.xe s₂) X.xe s₁) X.xe s:=by
 refine thn (ha pins s σ H _ I h) fun v s1 ⟨x,H1,I1,r1,q1⟩=>?_;refine thn (hb pins s1 σ H1 _ I1 q1) fun u s2 ⟨y,H2,I2,r2,q2⟩=>?_;exact hf v u s2 x y H2 I2 r1 r2 q2
theorem Oh{op:Operator}{r:R2}(ho:OpR X (binaryOp op) r)(ha:PE X a ta)(hb:PE X b tb):PE X (.BinOp a op b pos) (tOp r ta tb):=by intro pins s σ H Q I h;exact wpAny_BinOp (K_ ha hb I h fun v u s2 x y H2 I2 rx ry q=>ho pins s2 σ H2 x y v u Q I2 rx ry q)
theorem opI{f:Value->Value->Sem Value}{C:Int->Int->Prop}{g:Int->Int->Int}
  (rule:∀(i j:Int) (t u:Tok) (s:Shared) (Q:Value->Shared->Prop) (E:Value->Shared->Prop),C i j->Q (.int (g i j) s.toks) { s with toks:=s.toks+1 }->wpAny (model X.prog X.w) X.A (f (.int i t) (.int j u)) Q E s) :
  OpR X f (rI C fun i j=>.int (g i j)):=by
 intro pins s σ H x y v u Q I rx ry h;obtain⟨i,j,rfl,rfl,hc,q⟩:=h;obtain⟨t,rfl⟩:=rx;obtain⟨t',rfl⟩:=ry;exact rule i j t t' s _ _ hc ⟨.int (g i j),H,I.tok _,⟨_,rfl⟩,q⟩
theorem Oi{f:Value->Value->Sem Value}{g:Int->Int->Int}
  (rule:∀(i j:Int) (t u:Tok) (s:Shared) (Q:Value->Shared->Prop) (E:Value->Shared->Prop),Q (.int (g i j) s.toks) { s with toks:=s.toks+1 }->wpAny (model X.prog X.w) X.A (f (.int i t) (.int j u)) Q E s) :
  OpR X f (rI0 fun i j=>.int (g i j)):=by
 intro pins s σ H x y v u Q I rx ry h;obtain⟨i,j,rfl,rfl,q⟩:=h;obtain⟨t,rfl⟩:=rx;obtain⟨t',rfl⟩:=ry;exact rule i j t t' s _ _ ⟨.int (g i j),H,I.tok _,⟨_,rfl⟩,q⟩
theorem GK{f:Value->Value->Sem Value}{g:Int->Int->Bool}
  (rule:∀(i j:Int) (t u:Tok) (s:Shared) (Q:Value->Shared->Prop) (E:Value->Shared->Prop),Q (.bool (g i j)) s->wpAny (model X.prog X.w) X.A (f (.int i t) (.int j u)) Q E s) :
  OpR X f (rI0 fun i j=>.bl (g i j)):=by
 intro pins s σ H x y v u Q I rx ry h;obtain⟨i,j,rfl,rfl,q⟩:=h;obtain⟨t,rfl⟩:=rx;obtain⟨t',rfl⟩:=ry;exact rule i j t t' s _ _ ⟨.bl (g i j),H,I,rfl,q⟩
noncomputable def Oj(i j:Int):Prop:=0<=j/\j<=1000000/\i.natAbs<2 ^ 64
noncomputable def CC(i j:Int):Prop:=(-(2 ^ 64)<i/\i<2 ^ 64)\/(-(2 ^ 64)<j/\j<2 ^ 64)
theorem CC.ok{i j:Int}(h:CC i j):IntMulOk i j:=by
 rcases h with⟨h1,h2⟩ | ⟨h1,h2⟩
 ·exact .of_left (intBits_le_64 h1 h2)
 ·exact .of_right (intBits_le_64 h1 h2)
theorem La:OpR X (binaryOp .Add) (rI0 fun i j=>.int (i+j)):=Oi fun _ _ _ _ _ _ _ q=>add_int q
theorem Lb:OpR X (binaryOp .Sub) (rI0 fun i j=>.int (i-j)):=Oi fun _ _ _ _ _ _ _ q=>sub_int q
theorem Lc:OpR X (binaryOp .Mult) (rI CC fun i j=>.int (i*j)):=opI fun _ _ _ _ _ _ _ hc q=>mul_int q hc.ok
theorem Ld:OpR X (binaryOp .Mod) (rI (fun _ j=>0<j) fun i j=>.int (i % j)):=opI fun i j _ _ _ _ _ hc q=>by have h1:(0:Int)<j:=hc;exact mod_int' (by omega) (by rw[Int.fmod_eq_emod_of_nonneg i (by omega)];exact q)
theorem Le:OpR X (binaryOp .Pow) (rI Oj fun i j=>.int (i ^ j.toNat)):=opI fun _ _ _ _ _ _ _ hc q=>pow_int_small hc.1 hc.2.1 hc.2.2 q
end
section
variable{X:Cx}{a b c:Expr}{ta tb tc:TE}{pos:Pos}
theorem Jr:OpR X (compareOp .Lt) (rI0 fun i j=>.bl (decide (i<j))):=GK fun _ _ _ _ _ _ _ q=>lt_int q
theorem CD:OpR X (compareOp .LtE) (rI0 fun i j=>.bl (decide (i<=j))):=GK fun _ _ _ _ _ _ _ q=>le_int q
theorem Ol:OpR X (compareOp .Gt) (rI0 fun i j=>.bl (decide (j<i))):=GK fun _ _ _ _ _ _ _ q=>gt_int q
theorem Om:OpR X (compareOp .GtE) (rI0 fun i j=>.bl (decide (j<=i))):=GK fun _ _ _ _ _ _ _ q=>ge_int q
theorem OpR.or{f:Value->Value->Sem Value}{r r':R2}(h:OpR X f r)(h':OpR X f r'):OpR X f (fun x y H Q=>r x y H Q\/r' x y H Q):=by
 intro pins s σ H x y v u Q I rx ry q;rcases q with q | q
 ·exact h pins s σ H x y v u Q I rx ry q
 ·exact h' pins s σ H x y v u Q I rx ry q
theorem fJ(b:Expr){op:CmpOp}(h:op≠.In:=by decide)(h2:op≠.NotIn:=by decide):behindInMarks op b=false:=by
 have e1:(op == CmpOp.In)=false:=by cases op<;>first | rfl | exact absurd rfl h
 have e2:(op == CmpOp.NotIn)=false:=by cases op<;>first | rfl | exact absurd rfl h2
 cases b<;>simp[behindInMarks,e1,e2]
theorem GL{op:CmpOp}{r:R2}(ho:OpR X (compareOp op) r)(ha:PE X a ta)(hb:PE X b tb)(hm:behindInMarks op b=false):PE X (.Compare a [op] [b] pos) (tOp r ta tb):=by intro pins s σ H Q I h;exact wpAny_Compare1 (K_ ha hb I h fun v u s2 x y H2 I2 rx ry q=>ho pins s2 σ H2 x y v u Q I2 rx ry q) hm
noncomputable def Js(t:TE):TT:=fun σ H Q=>t σ H fun x H'=>∃k,x=.bl k/\Q k H'
theorem GN{op:CmpOp}{r:R2}(ho:OpR X (compareOp op) r)(ha:PE X a ta)(hb:PE X b tb)(hm:behindInMarks op b=false):PT X (.Compare a [op] [b] pos) (Js (tOp r ta tb)):=by
 intro pins s σ H Q I h;refine wpAny_isTrue_Compare1 (thn (ha pins s σ H _ I h) fun v s1 ⟨x,H1,I1,r1,q1⟩=>thn (hb pins s1 σ H1 _ I1 q1) fun u s2 ⟨y,H2,I2,r2,q2⟩=>thn (ho pins s2 σ H2 x y v u _ I2 r1 r2 q2) fun c s3 ⟨z,H3,I3,r3,k,e,q3⟩=>?_) hm
 subst e;cases r3;exact wpAny_truthy_bool ⟨H3,I3,q3⟩
noncomputable def CF(r r':R2)(ta tb tc:TE):TE:=fun σ H Q=>ta σ H fun x H1=>tb σ H1 fun y H2=>r x y H2 fun z H3=>∃k,z=.bl k /\
 (if k=true then tc σ H3 fun w' H4=>r' y w' H4 Q else Q (.bl false) H3)
theorem CG{op op':CmpOp}{r r':R2}(ho:OpR X (compareOp op) r)(ho':OpR X (compareOp op') r')(ha:PE X a ta)(hb:PE X b tb)(hc:PE X c tc)
  (hm:lastMarks [op,op'] [b,c]=false:=by with_unfolding_all rfl):PE X (.Compare a [op,op'] [b,c] pos) (CF r r' ta tb tc):=by
 intro pins s σ H Q I h;refine Compare_chain (thn (ha pins s σ H _ I h) fun v s1 ⟨x,H1,I1,r1,q1⟩=>chain_link (thn (hb pins s1 σ H1 _ I1 q1) fun u s2 ⟨y,H2,I2,r2,q2⟩=>thn (ho pins s2 σ H2 x y v u _ I2 r1 r2 q2) fun d s3 ⟨z,H3,I3,r3,k,e,q3⟩=>?_)) hm
 subst e;cases r3;refine wpAny_truthy_bool ?_;cases k with
 |false=>exact ite_ff ⟨.bl false,H3,I3,rfl,q3⟩
 |true=>exact ite_tt (chain_last (thn (hc pins s3 σ H3 _ I3 q3) fun w' s4 ⟨z',H4,I4,r4,q4⟩=>ho' pins s4 σ H4 y z' u w' Q I4 r2 r4 q4))
noncomputable def Lf(K:gV)(x:V)(H:Hp)(k:Bool):Prop:=
 match x with
 |.non=>k=false
 |.bl b=>k=b
 |.int i=>k=(i != 0)
 |.str y=>y.length<=sizeLine/\k=((y.length:Int) != 0)
 |.byt y=>y.size<=sizeLine/\k=((y.size:Int) != 0)
 |.ref p=>(∃xs,SqL K H p xs/\k=!xs.isEmpty)\/(∃xs,SqT K H p xs/\k=!xs.isEmpty)\/∃kvs,H p=some (.dK kvs)/\k=!kvs.isEmpty
 |_=>False
theorem yF{κ:Type}{kvs:List (κ×V)}{vs:List (κ×Value)}(r:KV kvs vs):(!vs.isEmpty)=!kvs.isEmpty:=by cases r<;>rfl
theorem pN{xs:List V}{its:List Value}(r:Vals xs its):(!its.toArray.isEmpty)=!xs.isEmpty:=by cases r<;>simp
theorem pO:(sizeLine:Nat)<2 ^ 63:=by rw[sizeLine_eq];decide
theorem Lg:Rf X (fun x H Q=>∃k,Lf X.K x H k/\Q k H):=by
 intro pins s σ H x v Q I rx h;obtain⟨k,e,q⟩:=h;have hl:=pO;have hs:sizeLine=16777216:=sizeLine_eq;cases x with
 |non=>cases rx;have e':k=false:=e;subst e';exact truthy_none ⟨H,I,q⟩
 |bl b=>cases rx;have e':k=b:=e;subst e';exact wpAny_truthy_bool ⟨H,I,q⟩
 |int i=>obtain⟨t,rfl⟩:=rx;have e':k=(i != 0):=e;subst e';exact PySem.P.truthy_int ⟨H,I,q⟩
 |str y=>obtain⟨t,rfl⟩:=rx;obtain⟨hy,e'⟩:y.length<=sizeLine/\k=((y.length:Int) != 0):=e;subst e';exact PySem.P.truthy_str (by omega) ⟨H,I.tok _,q⟩
 |byt y=>obtain⟨t,rfl⟩:=rx;obtain⟨hy,e'⟩:y.size<=sizeLine/\k=((y.size:Int) != 0):=e;subst e';exact PySem.W.truthy_bytes (by omega) ⟨H,I.tok _,q⟩
 |ref p=>
  cases rx;have e':(∃xs,SqL X.K H p xs/\k=!xs.isEmpty)\/(∃xs,SqT X.K H p xs/\k=!xs.isEmpty)\/∃kvs,H p=some (.dK kvs)/\k=!kvs.isEmpty:=e;rcases e' with⟨xs,hx,e'⟩ | ⟨xs,hx,e'⟩ | ⟨kvs,hx,e'⟩
  ·subst e';obtain⟨its,r,pl,hz⟩:=I.list hx;have hlen:=r.length;exact wpAny_truthy_list pl.isList (by simp only[SE];omega) ⟨H,I.tok _,by rw[pN r];exact q⟩
  ·subst e';obtain⟨its,r,pl,hz⟩:=I.tuple hx;have hlen:=r.length;exact truthy_tuple pl (by simp only[SE];omega) ⟨H,I.tok _,by rw[pN r];exact q⟩
  ·subst e';obtain⟨hz,hS,vs,r,m⟩:kvs.length<=sizeLine/\(p == sysModules)=false/\∃vs,KV kvs vs/\s.heap.DictOf (a_ X.prog X.w) p vs:=I.hok p _ hx;have hlen:kvs.length=vs.length:=Paired.length r;exact wpAny_truthy_dict hS m (by omega) ⟨H,I.tok _,by rw[yF r];exact q⟩
 |_=>exact(show False from e).elim
theorem CH(ha:PE X a ta)(he:∀whole,isTrue a X.env whole=(do let v <- whole;standAt a.pos;holding [v] (truthy v))) :
  PT X a (fun σ H Q=>ta σ H fun x H'=>∃k,Lf X.K x H' k/\Q k H'):=by
 intro pins s σ H Q I h;exact isTrue_plain (thn (ha pins s σ H _ I h) fun v s1 ⟨x,H1,I1,r1,q1⟩=>Lg pins s1 σ H1 x v Q I1 r1 q1) (he _)
theorem vals1{x:V}{us:List Value}(r:Vals [x] us):∃u,us=[u]/\RelV x u:=by
 cases r with
 |cons r1 r2=>cases r2;exact⟨_,rfl,r1⟩
theorem vals2{x y:V}{us:List Value}(r:Vals [x,y] us):∃u w',us=[u,w']/\RelV x u/\RelV y w':=by
 cases r with
 |cons r1 r2=>
  cases r2 with
  |cons r3 r4=>cases r4;exact⟨_,_,rfl,r1,r3⟩
theorem Be(hc:X.calm=true):fm X (.builtin "max") (fun xs H Q=>∃i j,xs=[.int i,.int j]/\Q (.int (if j>i then j else i)) H):=by
 intro pins s σ H xs us Q I r h;obtain⟨i,j,rfl,q⟩:=h;obtain⟨u,w',rfl,⟨t,rfl⟩,⟨t',rfl⟩⟩:=vals2 r;refine max_two_ints (I.ok.hd hc) fun h' tk k=>⟨_,H,I.kept k,?_,q⟩;by_cases hj:j>i
 ·rw[if_pos hj,if_pos hj];exact⟨_,rfl⟩
 ·rw[if_neg hj,if_neg hj];exact⟨_,rfl⟩
theorem Bf(hc:X.calm=true):fm X (.builtin "min") (fun xs H Q=>∃i j,xs=[.int i,.int j]/\Q (.int (if j<i then j else i)) H):=by
 intro pins s σ H xs us Q I r h;obtain⟨i,j,rfl,q⟩:=h;obtain⟨u,w',rfl,⟨t,rfl⟩,⟨t',rfl⟩⟩:=vals2 r;refine min_two_ints (I.ok.hd hc) fun h' tk k=>⟨_,H,I.kept k,?_,q⟩;by_cases hj:j<i
 ·rw[if_pos hj,if_pos hj];exact⟨_,rfl⟩
 ·rw[if_neg hj,if_neg hj];exact⟨_,rfl⟩
theorem Bg:fm X (.type "int") (fun xs H Q=>(∃i,xs=[.int i]/\Q (.int i) H)\/∃k,xs=[.bl k]/\Q (.int (if k then 1 else 0)) H):=by
 intro pins s σ H xs us Q I r h;rcases h with⟨i,rfl,q⟩ | ⟨k,rfl,q⟩
 ·obtain⟨u,rfl,t,rfl⟩:=vals1 r;exact call_int_int ⟨.int i,H,I,⟨_,rfl⟩,q⟩
 ·obtain⟨u,rfl,r1⟩:=vals1 r;cases r1;exact call_int_bool ⟨.int (if k then 1 else 0),H,I.tok _,⟨_,rfl⟩,q⟩
end
structure Lh(h:Heap)(x dx C:Addr)(mA:Str->Option Value):Prop where
 obj:h.get? x=some (Vv C dx)
 ns:h.Ns1 dx mA
 ne:dx≠x
theorem Bj{h:Heap}{dx:Addr}{mA:Str->Option Value}(n:h.Ns1 dx mA):∃od,h.get? dx=some od/\∀name,VC name od=some (mA name):=by
 obtain⟨o,es,ep,ho,hd,hk,_,hm⟩:=n;refine⟨o,ho,fun name=>?_⟩;have e:=hm name;unfold nsFind findBy at e;rw[<- Vd]at e;unfold VC;rw[hd];dsimp only;split
 ·rename_i y q;rw[q]at e;exact congrArg some e
 ·rename_i q;rw[q]at e;have a:es.toList.any (·.refKey)=false:=by
   rw[List.any_eq_false];intro y hy;obtain⟨z,t,hkey⟩:=hk y (Array.mem_toList_iff.mp hy);simp[DictEntry.refKey,hkey]
  have a':¬es.toList.any (·.refKey)=true:=by rw[a];exact Tf
  rw[if_neg a'];exact congrArg some e
theorem Lh.look{h:Heap}{x dx C:Addr}{mA:Str->Option Value}(I:Lh h x dx C mA):∃od,PySem.W.InstAt h x (Vv C dx) C (some od)/\∀name,VC name od=some (mA name):=
 let ⟨od,ho,hl⟩:=Bj I.ns
 ⟨od,⟨I.obj,rfl,rfl,ho⟩,hl⟩
theorem lQ.some_of{v:V}{o:Option Value}(r:lQ (some v) o):∃u,o=some u/\RelV v u:=by
 cases o with
 |none=>exact(show False from r).elim
 |some u=>exact⟨u,rfl,r⟩
section
variable{P:Program}{w:World}{H H':Hp}{h h':Heap}{a C dx:Addr}{fs fs':List (Str×V)}
theorem GO(hok:HOk P w H h)(e:H a=some (.ins C dx fs)):∃mA,Lh h a dx C mA/\(∀f,lQ (fs.lookup f) (mA f))/\PySem.Within mA (fs.map (·.1))/\fs.length<=1000/\H dx=some (.own a):=by
 obtain⟨d,z,ne,ob,mA,n,r,q⟩:=(show br P w H h a (.ins C dx fs) from hok a _ e)
 exact⟨mA,⟨ob,n,ne⟩,r,q,z,d⟩
end
structure Cls(K:gV)(C:Addr):Prop where
 pg:PySem.W.plainGet K C Str.empty=true
 hd:PySem.W.hasDictIn K C=true
 po:PySem.W.plainOver K C=true
 sa:TN K (.ref C) "__setattr__" = some (some (.builtin "object.__setattr__"))
theorem Cls.get{K:gV}{C:Addr}(c:Cls K C)(f:Str):PySem.W.plainGet K C f=true:=c.pg
section
variable{X:Cx}{pins:List (Addr×Obj)}{σ:St}{H:Hp}{s:Shared}{A:Around}{E:Value->Shared->Prop}{Q:Value->Shared->Prop}{c:Value}{b:Bool}
inductive lS(K:gV)(H:Hp):V->Value->Prop where
 |non:lS K H .non (.type "NoneType")
 |bl (x:Bool):lS K H (.bl x) (.type "bool")
 |int (i:Int):lS K H (.int i) (.type "int")
 |str (x:Str):lS K H (.str x) (.type "str")
 |flt (x:UInt64):lS K H (.flt x) (.type "float")
 |lst {a:Addr} {xs:List V} (e:H a=some (.lst xs)):lS K H (.ref a) (.type "list")
 |frz {a:Addr} {o:Obj} {xs:List V} (e:H a=some (.frz o (.lst xs))):lS K H (.ref a) (.type "list")
 |tup {a:Addr} {xs:List V} (e:H a=some (.tup xs)):lS K H (.ref a) (.type "tuple")
 |dK {a:Addr} {kvs:List (Key×V)} (e:H a=some (.dK kvs)):lS K H (.ref a) (.type "dict")
 |dT {a:Addr} {kvs:List (List Key×V)} (e:H a=some (.dT kvs)):lS K H (.ref a) (.type "dict")
 |ins {a C dx:Addr} {fs:List (Str×V)} (e:H a=some (.ins C dx fs)) (cl:Cls K C) (ha:TN K (.ref C) "__class__" = some (some (.builtin "object.__class__")))
   (hn:PySem.W.specialIn K (.builtin "object.__class__") "__get__" = some (some (.builtin "getset_descriptor.__get__"))) (htk:PySem.W.takesIn K (.builtin "object.__class__")=some true)
   (hm:TV K C (.type "object")=some true):lS K H (.ref a) (.ref C)
theorem Bk{x:V}{u t:Value}(I:Inv X pins σ H s)(rx:RelV x u)(ty:lS X.K H x t)(e:SO X.K t c=some b)(h:∀tk,Q (.bool b) { s with toks:=tk }) :
  wpAny (model X.prog X.w) A (call (.builtin "isinstance") [u,c]) Q E s:=by
 cases ty with
 |non=>cases (show u=VE from rx);exact TJ PySem.W.kitx_none I.kIn T8 e (fun z=>nomatch z) h
 |bl y=>cases (show u=VO y from rx);exact TJ PySem.W.kitx_bool I.kIn T8 e (fun z=>nomatch z) h
 |int i=>obtain⟨t,q⟩:=(show ∃t,u=Value.int i t from rx);cases q;exact TJ PySem.W.kitx_int I.kIn T8 e (fun z=>nomatch z) h
 |str y=>obtain⟨t,q⟩:=(show ∃t,u=Vu y t from rx);cases q;exact TJ PySem.W.kitx_str I.kIn T8 e (fun z=>nomatch z) h
 |flt y=>obtain⟨t,q⟩:=(show ∃t,u=Value.float y t from rx);cases q;exact TJ PySem.W.kitx_float I.kIn T8 e (fun z=>nomatch z) h
 |@lst a xs ea=>
  cases (show u=S4 a from rx);obtain⟨_,_,n,_,h1⟩:=(show br X.prog X.w H s.heap a (.lst xs) from I.hok a _ ea)
  exact TJ PySem.W.kitx_list I.kIn ⟨_,h1,rfl⟩ e (fun z=>nomatch z) h
 |@frz a ob xs ea=>
  cases (show u=S4 a from rx);obtain⟨_,_,_,n,_,h1⟩:=(show br X.prog X.w H s.heap a (.frz ob (.lst xs)) from I.hok a _ ea)
  exact TJ PySem.W.kitx_list I.kIn ⟨_,h1,rfl⟩ e (fun z=>nomatch z) h
 |@tup a xs ea=>
  cases (show u=S4 a from rx);obtain⟨_,_,_,p⟩:=(show br X.prog X.w H s.heap a (.tup xs) from I.hok a _ ea)
  obtain⟨o,h1,h2,_⟩:=p;exact TJ PySem.W.kitx_tuple I.kIn ⟨o,h1,h2⟩ e (fun z=>nomatch z) h
 |@dK a kvs ea=>
  cases (show u=S4 a from rx);obtain⟨_,_,vs,_,p⟩:=(show br X.prog X.w H s.heap a (.dK kvs) from I.hok a _ ea)
  obtain⟨o,es,ep,h1,h2,_⟩:=p;exact TJ PySem.W.kitx_dict I.kIn ⟨o,h1,h2.1⟩ e (fun z=>nomatch z) h
 |@dT a kvs ea=>
  cases (show u=S4 a from rx);obtain⟨_,_,xs,_,o,es,ep,h1,h2,_⟩:=(show br X.prog X.w H s.heap a (.dT kvs) from I.hok a _ ea)
  exact TJ PySem.W.kitx_dict I.kIn ⟨o,h1,h2.1⟩ e (fun z=>nomatch z) h
 |@ins a C dx fs ea cl ha hn htk hm=>cases (show u=S4 a from rx);obtain⟨mA,O,_⟩:=GO I.hok ea;obtain⟨od,J,_⟩:=O.look;exact TJ (PySem.W.kitx_own (cl.get _) cl.hd ha hn htk hm) I.kIn J e (fun z=>nomatch z) h
end
structure b5(k:Nat)(A:Around):Prop where
 hd:A.handled=none
 dp:A.depth+3*k+5<recursionLimit
 un:A.units+16*k+200<cLine
 gd:A.guards=some []
theorem b5.mono{j k:Nat}{A:Around}(r:b5 k A)(h:j<=k):b5 j A:=⟨r.hd,by have:=r.dp;omega,by have:=r.un;omega,r.gd⟩
theorem b5.deeper{k:Nat}{A:Around}(r:b5 (k+1) A)(env:Env):b5 k (A.deeper env):=
 ⟨r.hd,by have:=r.dp;show A.depth+1+3*k+5<_;omega,by have:=r.un;show A.units+3+16*k+200<_;omega,r.gd⟩
theorem b5.depth{k:Nat}{A:Around}(r:b5 k A):A.depth<recursionLimit:=by have:=r.dp;omega
theorem b5.units{k:Nat}{A:Around}(r:b5 k A):A.units+64<cLine:=by have:=r.un;omega
noncomputable def uG:TA:=fun _ H Q=>Q [] H
noncomputable def lT(ta:TE)(tr:TA):TA:=fun σ H Q=>ta σ H fun x H1=>tr σ H1 fun xs H2=>Q (x::xs) H2
section
variable{X:Cx}{e:Expr}{es:List Expr}{te:TE}{t:TA}{pos:Pos}
theorem gS:PA X [] uG:=fun _ _ _ _ H Q I h=>T3 ⟨[],H,I,.nil,h⟩
theorem dX(ha:PE X e te)(hr:PA X es t)(hs:starEach (e::es) X.env=(false,eval e X.env)::starEach es X.env:=by rfl):PA X (e::es) (lT te t):=by intro pos pins s σ H Q I h;rw[hs];show wpAny _ _ (spliced ((false,eval e X.env)::backTo pos (starEach es X.env))) _ _ s;refine UC (thn (ha pins s σ H _ I h) fun u s1 ⟨x,H1,I1,r1,q1⟩=>?_);exact thn (hr pos pins s1 σ H1 _ I1 q1) fun us s2 ⟨xs,H2,I2,r2,q2⟩=>⟨x::xs,H2,I2,.cons r1 r2,q2⟩
noncomputable def Li(t:TA):TE:=fun σ H Q=>t σ H fun xs H1=>xs.length<=sizeLine/\∀p,H1 p=none->Q (.ref p) (upd H1 p (.tup xs))
noncomputable def CI(t:TA):TE:=fun σ H Q=>t σ H fun xs H1=>xs.length<=sizeLine/\∀p,H1 p=none->Q (.ref p) (upd H1 p (.lst xs))
theorem CJ{x1}(h:PA X es t):PE X (.Tuple es x1 pos) (Li t):=by intro pins s σ H Q I hq;refine wpAny_Tuple_spliced (thn (h pos pins s σ H _ I hq) fun us s1 ⟨xs,H1,I1,r,z,q⟩=>⟨by rw[<- r.length];exact z,?_⟩);have hf:H1 s1.heap.objs.size=none:=I1.hok.fresh (Sz _);refine⟨.ref s1.heap.objs.size,upd H1 s1.heap.objs.size (.tup xs),I1.laid (t':=s1.toks) (fun b u e=>PU _ e) (Sz _) ?_,rfl,q _ hf⟩;exact⟨z,us,r,⟨_,SY _ rfl,rfl,_,rfl⟩⟩
theorem yG(h:PA X es t):PE X (.List es pos) (CI t):=by intro pins s σ H Q I hq;refine wpAny_List_spliced (thn (h pos pins s σ H _ I hq) fun us s1 ⟨xs,H1,I1,r,z,q⟩=>⟨by rw[<- r.length];exact z,?_⟩);have hf:H1 s1.heap.objs.size=none:=I1.hok.fresh (Sz _);refine⟨.ref s1.heap.objs.size,upd H1 s1.heap.objs.size (.lst xs),I1.laid (t':=s1.toks) (fun b u e=>PU _ e) (Sz _) ?_,rfl,q _ hf⟩;exact⟨z,us,0,r,SY _ rfl⟩
end
noncomputable abbrev Sp:=List V->Hp->VK->XK->Prop
noncomputable abbrev CXT:=List Env->Hp->Shared->XK->Value->Shared->Prop
structure GP(P:Program)(w:World)(K:gV)(mg:Str->Option Value)(base:Heap)(A:Around)(outer:List Env)(s:Shared)(H:Hp):Prop where
 frames:A.frames=some outer
 mod:Mod K mg base
 bs:∀b o,base.get? b=some o->s.heap.get? b=some o/\H b=none
 bsz:base.objs.size<=s.heap.objs.size
 oX:s.heap.FunFrames base outer
 frf:∀b∈frs outer,H b=none
 hok:HOk P w H s.heap
 bare:AllBare s.gens
noncomputable def CE(outer:List Env)(P:Program)(w:World)(H:Hp)(s:Shared)(Q:VK)(u:Value)(s':Shared):Prop:=
 ∃v H',s'.os=s.os/\AllBare s'.gens/\Un (frs outer) [] H H' s.heap s'.heap/\HOk P w H' s'.heap/\RelV v u/\Q v H'
noncomputable def CR(CX:CXT)(outer:List Env)(P:Program)(w:World)(H:Hp)(s:Shared)(Q:VK)(E:XK)(r:Result)(s':Shared):Prop:=
 match r with
 |.ok (.ret u)=>CE outer P w H s Q u s'
 |.ok _=>False
 |.error e=>CX outer H s E e s'
structure aV(P:Program)(w:World)(K:gV)(mg:Str->Option Value)(base:Heap)(CX:CXT)(k:Nat)(f:Addr)(fd:FuncData)(ps:List Str)(sp:Sp):Prop where
 len:∀vs H Q E,sp vs H Q E->vs.length=ps.length
 run:∀(A:Around) (outer:List Env) (s:Shared) (H:Hp) (args:Args) (us:List Value) (vs:List V) (Q:VK) (E:XK),b5 k A->GP P w K mg base A outer s H->BindsTo s fd args (ps.zip us)->Vals vs us->sp vs H Q E ->
  codeAny (model P w) A (.call (.ref f) args) (CR CX outer P w H s Q E) s
section
variable{X:Cx}{pins:List (Addr×Obj)}{σ:St}{H:Hp}{s s':Shared}
theorem Inv.Lj(I:Inv X pins σ H s):GP X.prog X.w X.K X.mg X.base X.A X.stack s H:=
 ⟨I.ok.frames,I.ok.mod,I.bs,Tn I.ok.bsz I.sz,I.stack,I.uB,I.hok,I.bare⟩
theorem Inv.after{Q:VK}{u:Value}(I:Inv X pins σ H s)(h:CE X.stack X.prog X.w H s Q u s'):EP X pins σ Q u s':=by obtain⟨v,H',os,bare,un,hok,r,q⟩:=h;obtain⟨hh,g,d,t,os'⟩:=s';obtain rfl:os'=s.os:=os;exact⟨v,H',I.call (h':=hh) (g':=g) (d':=d) (t':=t) (ch:=[]) un hok bare (fun b z=>absurd z (by simp)),r,q⟩
end
noncomputable def tF(sp:Sp)(dvs:List V)(E:XK)(t:TA):TE:=fun σ H Q=>t σ H fun vs H1=>sp (vs++dvs) H1 Q E
noncomputable def Binds(K:gV)(fd:FuncData)(ps:List Str)(ds:List Value):Prop:=
 ∀(s:Shared) (us:List Value),K.In s.heap->(us++ds).length=ps.length->BindsTo s fd ⟨us,[]⟩ (ps.zip (us++ds))
theorem Binds.all{K:gV}{fd:FuncData}{ps:List Str}(h:∀us:List Value,us.length=ps.length->bindArgs fd ⟨us,[]⟩=pure (ps.zip us)):Binds K fd ps []:=fun s us _ hl=>by rw[Tz]at hl ⊢;exact .of_eq (h us hl)
noncomputable def Passes(CX:CXT)(X:Cx)(E:XK):Prop:=∀(pins:List (Addr×Obj)) (σ:St) (H:Hp) (s:Shared) (e:Value) (s':Shared),Inv X pins σ H s->CX X.stack H s E e s'->X.xe e s'
section
variable{X:Cx}{CX:CXT}{k:Nat}{f C:Addr}{fd:FuncData}{ps:List Str}{sp:Sp}{dvs:List V}{ds:List Value}{E:XK}{x m:Str}{p pos apos:Pos}{e o:Expr}{es:List Expr}{ta:TE}{t:TA}
theorem Lk{pins:List (Addr×Obj)}{σ:St}{H:Hp}{s:Shared}{Q:VK}{us:List Value}{vs:List V}(F:aV X.prog X.w X.K X.mg X.base CX k f fd ps sp)(hr:b5 k X.A)(hb:Binds X.K fd ps ds)(hd:Vals dvs ds)(hx:Passes CX X E)
  (I:Inv X pins σ H s) (r:Vals vs us) (h:sp (vs++dvs) H Q E):wpAny (model X.prog X.w) X.A (call (.ref f) us) (EP X pins σ Q) X.xe s:=by
 have r2:Vals (vs++dvs) (us++ds):=r.append hd;have hl:(us++ds).length=ps.length:=by rw[<- r2.length];exact F.len _ _ _ _ h
 refine wpAny_call (codeAny_mono (F.run X.A X.stack s H ⟨us,[]⟩ (us++ds) (vs++dvs) Q E hr I.Lj (hb s us I.kIn hl) r2 h) fun r s' hq=>?_);cases r with
 |error e=>exact hx pins σ H s e s' I hq
 |ok fl=>
  cases fl with
  |ret u=>exact I.after hq
  |next=>exact SQ hq
  |brk=>exact SQ hq
  |cont=>exact SQ hq
theorem lU(F:aV X.prog X.w X.K X.mg X.base CX k f fd ps sp)(hr:b5 k X.A)(hg:Gl X x)(hm:X.mg x=some (.ref f))(hk:Tw X.K (.ref f)=true)(hb:Binds X.K fd ps ds)(hd:Vals dvs ds)(hx:Passes CX X E)
  (ha:PA X (e::es) t) (hdb:(x == ("__debug__" : Str))=false:=by decide) (he:starEach (e::es) X.env=(false,eval e X.env)::starEach es X.env:=by rfl) (hpl:(backTo pos (starEach es X.env)).any (·.1)=false:=by rfl) :
  PE X (.Call (.Name x p) (e::es) [] pos) (tF sp dvs E t):=by
 intro pins s σ H Q I h;refine wpAny_Call_Name_kw (jA I hg hm ?_ hdb);refine Ve (h₀:=X.base) I.ok.mod.kin hk (thn (ha pos pins s σ H _ I h) fun us s1 ⟨vs,H1,I1,r,q⟩=>⟨I1.kIn,?_⟩) he hpl;exact Lk F hr hb hd hx I1 r q
end
structure aA(N P:List Str)(sc:Scope):Prop where
 kind:sc.kind=.function
 co:sc.isCoroutine=false
 gen:sc.isGenerator=false
 nd:N.Nodup
 pre:N.take P.length=P
 par:∀x∈P,sc.names.lookup x=some .local\/sc.names.lookup x=some .cell
 Ll:∀y∈sc.names,y.2≠.free
theorem tG{kindOf:Str->Option NameKind}{x:Str}:∀{binds:List (Str×Value)} {m:Str->Option Value},(∀v,(x,v)∉binds)->bindL kindOf binds m x=m x
 |[],_,_=>rfl
 |(n,v)::r,m,h=>by
  unfold bindL;rw[tG fun w hw=>h w (SA _ hw)];split
  ·have:x≠n:=by rintro rfl;exact h v Sy
   simp[this]
  ·rfl
theorem tH{kindOf:Str->Option NameKind}{x:Str}:∀{binds:List (Str×Value)} {m:Str->Option Value},(∀v,(x,v)∉binds)->bindC kindOf binds m x=m x
 |[],_,_=>rfl
 |(n,v)::r,m,h=>by
  unfold bindC;rw[tH fun w hw=>h w (SA _ hw)];split
  ·rfl
  ·have:x≠n:=by rintro rfl;exact h v Sy
   simp[this]
theorem tL{kindOf:Str->Option NameKind}{x:Str}{v:Value}:∀{P:List Str} {vs:List Value} {i:Nat} {m:Str->Option Value},P.Nodup->P[i]?=some x->vs[i]?=some v->kindOf x=some .local ->
  bindL kindOf (P.zip vs) m x=some v
 |[],_,_,_,_,h,_,_=>by simp at h
 |_::_,[],_,_,_,_,h,_=>by simp at h
 |p::P,w::vs,0,m,nd,h1,h2,hk=>by simp at h1 h2;subst h1;subst h2;show bindL kindOf ((p,w)::P.zip vs) m p=_;unfold bindL;rw[tG fun v hv=>(S1.mp nd).1 (Vy hv).1,if_pos hk];simp
 |p::P,w::vs,i+1,m,nd,h1,h2,hk=>by show bindL kindOf ((p,w)::P.zip vs) m x=_;unfold bindL;exact tL (i:=i) (S1.mp nd).2 (by simpa using h1) (by simpa using h2) hk
theorem tM{kindOf:Str->Option NameKind}{x:Str}{v:Value}:∀{P:List Str} {vs:List Value} {i:Nat} {m:Str->Option Value},P.Nodup->P[i]?=some x->vs[i]?=some v->kindOf x≠some .local ->
  bindC kindOf (P.zip vs) m x=some v
 |[],_,_,_,_,h,_,_=>by simp at h
 |_::_,[],_,_,_,_,h,_=>by simp at h
 |p::P,w::vs,0,m,nd,h1,h2,hk=>by simp at h1 h2;subst h1;subst h2;show bindC kindOf ((p,w)::P.zip vs) m p=_;unfold bindC;rw[tH fun v hv=>(S1.mp nd).1 (Vy hv).1,if_neg hk];simp
 |p::P,w::vs,i+1,m,nd,h1,h2,hk=>by show bindC kindOf ((p,w)::P.zip vs) m x=_;unfold bindC;exact tM (i:=i) (S1.mp nd).2 (by simpa using h1) (by simpa using h2) hk
noncomputable def start(N:List Str)(vs:List V):St:=vs.map some++Dp (N.length-vs.length) none
noncomputable def gT(CX:CXT)(P:Program)(w:World)(K:gV)(mg:Str->Option Value)(base:Heap)(N:List Str)(qual:Str)(scope:Scope)(f:Addr)(cd:Value)(A:Around)(outer:List Env)(s:Shared)(H:Hp)(E:XK):Cx where
 prog:=P
 w:=w
 K:=K
 mg:=mg
 base:=base
 A:=A.deeper (envOfC qual scope s.heap.objs.size f cd)
 N:=N
 s₀:=s
 H₀:=H
 env:=envOfC qual scope s.heap.objs.size f cd
 outer:=outer
 stack:=envOfC qual scope s.heap.objs.size f cd::outer
 ex:=[]
 calm:=true
 fn:=fun _=>true
 pn:=[]
 xe:=fun e s'=>wpAny (model P w) (A.deeper (envOfC qual scope s.heap.objs.size f cd)) (leaving (envOfC qual scope s.heap.objs.size f cd) e) (fun _ s''=>CX outer H s E e s'') (fun e' s''=>CX outer H s E e' s'') s'
theorem vS{sc:Scope}{n:Nat}{x:Str}(h:sc.names.lookup x=some .cell):∃c,(cellsFrom n sc.names []).lookup x=some c:=by have q:=PySem.W.cellsFrom_some sc.names n [] (.inl h);exact Th.mp q
theorem Bl{CX:CXT}{P:Program}{w:World}{K:gV}{mg:Str->Option Value}{base:Heap}{N ps:List Str}{qual:Str}{scope:Scope}{f:Addr}{cd:Value}{A:Around}{outer:List Env}{s s1:Shared}{H:Hp}{E:XK}{us:List Value}{vs:List V}
  (S:aA N ps scope) (hd:A.handled=none) (e0:GP P w K mg base A outer s H) (hl:vs.length=ps.length) (r:Vals vs us)
  (x:InCallC s s.heap.objs.size (bindL (envOfC qual scope s.heap.objs.size f cd).kindOf (ps.zip us) fun _=>none) (cellsFrom (s.heap.objs.size+1) scope.names []) (bindC (envOfC qual scope s.heap.objs.size f cd).kindOf (ps.zip us) fun _=>none) s1) :
  Inv (gT CX P w K mg base N qual scope f cd A outer s H E) [] (start N vs) H s1:=by
 have hpl:ps.length<=N.length:=by have:=congrArg List.length S.pre;rw[Ul]at this;omega
 obtain⟨h1,tk,rfl,hk⟩:=x.done;have noA:∀b:Addr,b∉(gT CX P w K mg base N qual scope f cd A outer s H E).ex:=fun b z=>absurd (show b∈([]:List Addr) from z) (by simp);refine ⟨⟨e0.mod,S.kind,rfl,rfl,Sz _,fun y z c h1 h2=>?_,fun y hy=>?_,fun y c _ h=>?_,fun _=>hd,Around.frames_deeper e0.frames,.inr ⟨rfl,rfl⟩,fun b z=>absurd z (noA b),e0.bs,e0.bsz,fun b _ _=>noA b,fun b z=>absurd z (noA b),e0.oX,e0.frf⟩,
  rfl,e0.bare,Un.kept hk,⟨_,x.toInCall.ns,fun i y v h1 h2 h3=>?_⟩,fun y c h=>⟨_,x.cell y c h⟩,e0.hok.fresh (Sz _),fun y c h=>?_,fun p hp=>absurd (show p∈([]:List (Addr×Obj)) from hp) (by simp),e0.hok.kept hk,?_⟩
 ·exact name_of_addr x.apart (PySem.mem_of_lookup h1) (PySem.mem_of_lookup h2)
 ·have hy:scope.names.lookup y=some .cell\/scope.names.lookup y=some .free:=hy;rcases hy with hy | hy
  ·exact vS hy
  ·exact absurd rfl (S.Ll _ (PySem.mem_of_lookup hy))
 ·exact U4 (x.above y c (PySem.mem_of_lookup h))
 ·have hi:i<vs.length:=by
   unfold start at h2;by_cases hi:i<vs.length
   ·exact hi
   ·rw[SW (by simpa using hi)]at h2;rw[S8]at h2;split at h2<;>cases h2
  have ha:vs[i]?=some v:=by
   unfold start at h2;rw[SG (by simpa using hi),SM]at h2;cases e:vs[i]? with
   |none=>rw[e]at h2;cases h2
   |some a=>rw[e]at h2;cases h2;rfl
  obtain⟨u,hu,rv⟩:=r.get ha;have hp:ps[i]?=some y:=by rw[<- S.pre,Uy (by omega)];exact h1
  have ndP:ps.Nodup:=by rw[<- S.pre];exact S.nd.sublist (List.take_sublist _ _)
  refine⟨u,rv,?_⟩;rcases S.par y (Ue hp) with k | k
  ·exact .inl ⟨k,tL ndP hp hu k⟩
  ·obtain⟨c,e⟩:=vS (n:=s.heap.objs.size+1) k;refine .inr ⟨.inl k,c,e,?_⟩;have q:=x.cell y c e;rw[tM ndP hp hu (by show scope.names.lookup y≠_;rw[k];decide)]at q;exact q
 ·exact e0.hok.fresh (U4 (x.above y c (PySem.mem_of_lookup h)))
 ·unfold start;show _=N.length;rw[SK,Sx,Us];omega
theorem z5{CX:CXT}{P:Program}{w:World}{K:gV}{mg:Str->Option Value}{base:Heap}{k:Nat}{f:Addr}{name qual:Str}{params:Arguments}{body:List Stmt}{scope:Scope}{dV kV doc pm cdv ct oc:Value}{an od:Option Addr}
  {osl:Array (Option Value)} {N ps:List Str} {sp:Sp} (lk:K.lookup f=some ⟨oc,od,.func (S5 name qual params body scope dV kV doc pm an cdv ct),osl⟩) (hcd:Uv K cdv qual=true) (S:aA N ps scope)
  (len:∀vs H Q E,sp vs H Q E->vs.length=ps.length)
  (hbody:∀ (A:Around) (outer:List Env) (s:Shared) (H:Hp) (vs:List V) (Q:VK) (E:XK),b5 k (A.deeper (envOfC qual scope s.heap.objs.size f cdv))→sp vs H Q E →
   ∃t,PSs (gT CX P w K mg base N qual scope f cdv A outer s H E) body t/\t { nx:=fun _ H'=>Q .non H',rt:=Q } (start N vs) H) :
  aV P w K mg base CX (k+1) f (S5 name qual params body scope dV kV doc pm an cdv ct) ps sp:=by
 refine⟨len,fun A outer s H args us vs Q E hr e0 hb r hsp=>?_⟩;have hl:=len _ _ _ _ hsp;have KX:K.In s.heap:=e0.mod.kin.keeps fun b o e=>(e0.bs b o e).1;have lim:s.heap.NoLimit:=e0.mod.nolimit.keeps fun b o e=>(e0.bs b o e).1;have hkind:∀y∈ps.zip us,scope.names.lookup y.1=some .local\/(scope.names.lookup y.1=some .cell/\((cellsFrom (s.heap.objs.size+1) scope.names []).lookup y.1).isSome=true):=fun⟨n,v⟩ hy=>by
  rcases S.par n (Vy hy).1 with q | q
  ·exact .inl q
  ·exact .inr ⟨q,PySem.W.cellsFrom_some _ _ _ (.inl q)⟩
 refine codeAny_call_function hr.depth (KX _ _ lk) rfl S.co S.gen rfl (PySem.W.codeRec_of KX hcd) (hb _ _ _ _ ?_);refine wpAny_newFunctionEnv_cells S.kind hkind fun env he s1 x=>?_;subst he;refine⟨lim.keeps x.toInCall.keep,codeAny_func ?_⟩;obtain⟨t,ht,hq⟩:=hbody A outer s H vs Q E (hr.deeper _) hsp;have I:Inv (gT CX P w K mg base N qual scope f cdv A outer s H E) [] (start N vs) H s1:=Bl S hr.hd e0 hl r x;refine wpAny_mono (ht [] s1 (start N vs) H _ I hq) (fun fl s' hs=>?_) fun e s' hs=>hs;have fin:∀{σ':St} {H':Hp} {v:V} {u:Value},Inv (gT CX P w K mg base N qual scope f cdv A outer s H E) [] σ' H' s'->RelV v u->Q v H'->CE outer P w H s Q u s':=
  fun {σ' H' v u} J rv q=>⟨v,H',J.os,J.bare,J.base,J.hok,rv,q⟩
 cases fl with
 |ret u=>obtain⟨v,σ',H',J,rv,q⟩:=hs;exact fin J rv q
 |next=>obtain⟨σ',H',J,q⟩:=hs;exact fin (v:=V.non) (u:=VE) J rfl q
 |brk=>obtain⟨_,_,_,q⟩:=hs;exact SQ q
 |cont=>obtain⟨_,_,_,q⟩:=hs;exact SQ q
section
variable{X:Cx}{x:Str}{p pos:Pos}{e:Expr}{es:List Expr}{t:TA}{id T:String}{r:List V->Hp->VK->Prop}
noncomputable def tCB(r:List V->Hp->VK->Prop)(t:TA):TE:=fun σ H Q=>t σ H fun vs H1=>r vs H1 Q
theorem iP(hc:fm X (.builtin id) r)(hg:Gl X x)(hm:X.mg x=none)(hv:bootBuiltins x=some (.builtin id))(ha:PA X (e::es) t)(hn:x ≠ "__name__" := by decide)(hdb:(x == ("__debug__" : Str))=false:=by decide)
  (he:starEach (e::es) X.env=(false,eval e X.env)::starEach es X.env:=by rfl) (hpl:(backTo pos (starEach es X.env)).any (·.1)=false:=by rfl):PE X (.Call (.Name x p) (e::es) [] pos) (tCB r t):=by
 intro pins s σ H Q I h;refine wpAny_Call_Name_kw (fH I hg hm hv ?_ hn hdb);exact PyProof.Rows.callWith_builtin1 (thn (ha pos pins s σ H _ I h) fun us s1 ⟨vs,H1,I1,r1,q1⟩=>hc pins s1 σ H1 vs us Q I1 r1 q1) he hpl
theorem Bm(hc:fm X (.type T) r)(hg:Gl X x)(hm:X.mg x=none)(hv:bootBuiltins x=some (.type T))(ha:PA X (e::es) t)(hn:x ≠ "__name__" := by decide)(hdb:(x == ("__debug__" : Str))=false:=by decide)
  (he:starEach (e::es) X.env=(false,eval e X.env)::starEach es X.env:=by rfl) (hpl:(backTo pos (starEach es X.env)).any (·.1)=false:=by rfl):PE X (.Call (.Name x p) (e::es) [] pos) (tCB r t):=by
 intro pins s σ H Q I h;refine wpAny_Call_Name_kw (fH I hg hm hv ?_ hn hdb);exact Tj (thn (ha pos pins s σ H _ I h) fun us s1 ⟨vs,H1,I1,r1,q1⟩=>hc pins s1 σ H1 vs us Q I1 r1 q1) he hpl
end
end L2
namespace HT
open PySem PyProof.Rows
section
variable{prog:Program}{w:World}{A:Around}{E:Value->Shared->Prop}{s:Shared}
noncomputable def sIx(n d:Nat):Option Int->Nat
 |none=>d
 |some v=>if v<0 then (v+(n:Int)).toNat else min v.toNat n
end
end HT
namespace L2
open PySem PySem.Spec PyProof.Rows
noncomputable abbrev TO:=St->Hp->(Option Int->Hp->Prop)->Prop
noncomputable def PO(X:Cx)(e:Option Expr)(t:TO):Prop:=
 ∀(pins:List (Addr×Obj)) (s:Shared) (σ:St) (H:Hp) (Q:Option Int->Hp->Prop),Inv X pins σ H s->t σ H Q ->
  wpAny (model X.prog X.w) X.A (evalPart e X.env) (fun u s'=>∃o H',Inv X pins σ H' s'/\IsPart u o/\Q o H') X.xe s
noncomputable def uH:TO:=fun _ H Q=>Q none H
noncomputable def CK(t:TE):TO:=fun σ H Q=>t σ H fun x H1=>∃i,x=.int i/\Q (some i) H1
section
variable{X:Cx}{e:Expr}{te:TE}{lo hi:Option Expr}{tl th:TO}{pos p2:Pos}
theorem GQ:PO X none uH:=by intro pins s σ H Q I h;rw[evalPart_none];exact wpAny_pure ⟨none,H,I,.none,h⟩
theorem GR(h:PE X e te):PO X (some e) (CK te):=by intro pins s σ H Q I hw;rw[evalPart_some];refine thn (h pins s σ H _ I hw) fun u s1 ⟨x,H1,I1,r1,q1⟩=>?_;obtain⟨i,rfl,q⟩:=q1;obtain⟨t,rfl⟩:=r1;exact⟨some i,H1,I1,.int i t,q⟩
noncomputable def SlR(X:Cx)(r:V->Option Int->Option Int->Hp->VK->Prop):Prop:=
 ∀(pins:List (Addr×Obj)) (s:Shared) (σ:St) (H:Hp) (x:V) (v vl vu:Value) (lo hi:Option Int) (sl:Addr) (Q:VK),Inv X pins σ H s->RelV x v->s.heap.IsSliceOf sl vl vu .none->IsPart vl lo->IsPart vu hi->r x lo hi H Q ->
  ∃T id,typeLookup (.type T) "__getitem__" = pure (some (.builtin id))/\s.TypeIs v T/\wpAny (model X.prog X.w) X.A (getItem v (.ref sl)) (EP X pins σ Q) X.xe s
noncomputable def tSl(r:V->Option Int->Option Int->Hp->VK->Prop)(te:TE)(tl th:TO):TE:=fun σ H Q=>te σ H fun x H1=>tl σ H1 fun l H2=>th σ H2 fun u H3=>r x l u H3 Q
theorem CL{r:V->Option Int->Option Int->Hp->VK->Prop}(hr:SlR X r)(he:PE X e te)(hl:PO X lo tl)(hu:PO X hi th):PE X (.Subscript e (.Slice lo hi none p2) pos) (tSl r te tl th):=by intro pins s σ H Q I h;refine Subscript_ (thn (he pins s σ H _ I h) fun v s1 ⟨x,H1,I1,r1,q1⟩=>?_);refine wpAny_Slice (thn (hl pins s1 σ H1 _ I1 q1) fun vl s2 ⟨l,H2,I2,pl,q2⟩=>thn (hu pins s2 σ H2 _ I2 q2) fun vu s3 ⟨u,H3,I3,pu,q3⟩=>?_);rw[evalPart_none];refine wpAny_pure ?_;have I4:Inv X pins σ H3 { s3 with heap:=s3.heap.push { cls:=.type "slice",data:=.fields #[vl,vu,.none] } }:=I3.kept (t':=s3.toks) fun b ob q=>PU _ q;obtain⟨T,id,hT,ht,hg⟩:=hr pins { s3 with heap:=s3.heap.push { cls:=.type "slice",data:=.fields #[vl,vu,.none] } } σ H3 x v vl vu l u s3.heap.objs.size Q I4 r1 (Heap.IsSliceOf.new ..) pl pu q3;show wpAny (model X.prog X.w) X.A (subscriptTail e (.Slice lo hi none p2) v (.ref s3.heap.objs.size)) (EP X pins σ Q) X.xe { s3 with heap:=s3.heap.push { cls:=.type "slice",data:=.fields #[vl,vu,.none] } };exact tail_any (ops:=[.ref s3.heap.objs.size,v]) ht hT hg (by with_unfolding_all rfl)
noncomputable def yH(xs:List V)(lo hi:Option Int):List V:=(xs.drop (HT.sIx xs.length 0 lo)).take (HT.sIx xs.length xs.length hi-HT.sIx xs.length 0 lo)
theorem vU(xs:List V)(lo hi:Option Int):(yH xs lo hi).length<=xs.length:=by unfold yH;rw[Ul,List.length_drop];omega
end
noncomputable def ixN(n:Nat)(i:Int):Option Nat:=if 0<=i then (if i<n then some i.toNat else none) else if -(n:Int)<=i then some (i+n).toNat else none
noncomputable def atI{α:Type}(xs:List α)(i:Int):Option α:=(ixN xs.length i).bind fun j=>xs[j]?
theorem z6{n:Nat}{i:Int}{j:Nat}(h:ixN n i=some j):seqIndex? i n=some j/\j<n/\-(n:Int)<=i/\i<n:=by
 unfold ixN at h;by_cases h0:0<=i
 ·rw[if_pos h0]at h;by_cases h1:i<n
  ·rw[if_pos h1]at h;have e:i.toNat=j:=Option.some.inj h;exact⟨by rw[seqIndex_of h0 h1,e],by omega,by omega,h1⟩
  ·rw[if_neg h1]at h;cases h
 ·rw[if_neg h0]at h;by_cases h1:-(n:Int)<=i
  ·rw[if_pos h1]at h;have e:(i+n).toNat=j:=Option.some.inj h;exact⟨by rw[seqIndex_neg (by omega) h1,e],by omega,h1,by omega⟩
  ·rw[if_neg h1]at h;cases h
theorem z7{α:Type}{xs:List α}{i:Int}{v:α}(h:atI xs i=some v):∃j,seqIndex? i xs.length=some j/\xs[j]?=some v/\j<xs.length/\-(xs.length:Int)<=i/\i<xs.length:=by
 unfold atI at h;cases e:ixN xs.length i with
 |none=>rw[e]at h;cases h
 |some j=>rw[e]at h;obtain⟨h1,h2,h3,h4⟩:=z6 e;exact⟨j,h1,h,h2,h3,h4⟩
noncomputable def uI(b:Expr):Prop:=∀o i,subscripted b false o i=operate [o,i] (getItem o i)
noncomputable def IxR(X:Cx)(r:R2):Prop:=
 ∀(value slice:Expr) (pins:List (Addr×Obj)) (s:Shared) (σ:St) (H:Hp) (x y:V) (v u:Value) (Q:VK),Inv X pins σ H s->RelV x v->RelV y u->r x y H Q ->
  subscripted slice false v u=operate [v,u] (getItem v u)->wpAny (model X.prog X.w) X.A (subscriptTail value slice v u) (EP X pins σ Q) X.xe s
noncomputable def MtR(X:Cx)(id:String)(r:V->List V->Hp->VK->Prop):Prop:=
 ∀(pins:List (Addr×Obj)) (s:Shared) (σ:St) (H:Hp) (x:V) (xs:List V) (v:Value) (us:List Value) (Q:VK),Inv X pins σ H s->RelV x v->Vals xs us->r x xs H Q ->
  wpAny (model X.prog X.w) X.A (call (.builtin id) (v::us)) (EP X pins σ Q) X.xe s
section
variable{X:Cx}{a b:Expr}{ta tb:TE}{pos:Pos}
theorem IxR.or{r r':R2}(h:IxR X r)(h':IxR X r'):IxR X (fun x y H Q=>r x y H Q\/r' x y H Q):=by
 intro value slice pins s σ H x y v u Q I rx ry q hs;rcases q with q | q
 ·exact h value slice pins s σ H x y v u Q I rx ry q hs
 ·exact h' value slice pins s σ H x y v u Q I rx ry q hs
theorem Jt{r:R2}(hr:IxR X r)(ha:PE X a ta)(hb:PE X b tb)(hs:uI b):PE X (.Subscript a b pos) (tOp r ta tb):=by intro pins s σ H Q I h;exact Subscript_ (K_ ha hb I h fun v u s2 x y H2 I2 rx ry q=>hr a b pins s2 σ H2 x y v u Q I2 rx ry q (hs _ _))
noncomputable def Lm(K:gV):R2:=fun x y H Q=>∃p xs i v,x=.ref p/\y=.int i/\SqL K H p xs/\atI xs i=some v/\Q v H
noncomputable def Oo(K:gV):R2:=fun x y H Q=>∃p xs i v,x=.ref p/\y=.int i/\SqT K H p xs/\atI xs i=some v/\Q v H
theorem z8:IxR X (Lm X.K):=by
 intro value slice pins s σ H x y v u Q I rx ry h hs;obtain⟨p,xs,i,z,rfl,rfl,hq,he,q⟩:=h;cases rx;obtain⟨t,rfl⟩:=ry;obtain⟨its,r,pl,hz⟩:=I.list hq;obtain⟨j,h1,h2,h3,h4,h5⟩:=z7 he;obtain⟨w,ew,rw'⟩:=r.get h2;have hl:=r.length;have hn:=pO;have fin:EP X pins σ Q w s:=⟨z,H,I,rw',q⟩
 by_cases h0:0<=i
 ·have hj:i.toNat=j:=by
   rw[seqIndex_of h0 h5]at h1;exact Option.some.inj h1
  exact item_listR pl.isList h0 (by omega) (by rw[hj];simpa using ew) fin hs
 ·have hj:(i+(its.toArray.size:Int)).toNat=j:=by
   rw[seqIndex_neg (by omega) h4]at h1;rw[SE,<- hl];exact Option.some.inj h1
  exact subscriptTail_builtinR (x:=w) pl.isList.typeIs slot_list_getitem.lookup
   (wpAny_getItem_list_neg (Q:=fun r s'=>r=w/\EP X pins σ Q r s') pl.isList (by omega) (by rw[SE]<;>omega) (by omega) (by rw[hj];simpa using ew) ⟨rfl,fin⟩) hs
theorem Ln:IxR X (Oo X.K):=by
 intro value slice pins s σ H x y v u Q I rx ry h hs;obtain⟨p,xs,i,z,rfl,rfl,hq,he,q⟩:=h;cases rx;obtain⟨t,rfl⟩:=ry;obtain⟨its,r,pl,hz⟩:=I.tuple hq;obtain⟨j,h1,h2,h3,h4,h5⟩:=z7 he;obtain⟨w,ew,rw'⟩:=r.get h2;have hl:=r.length;have hn:=pO;have fin:EP X pins σ Q w s:=⟨z,H,I,rw',q⟩
 exact subscriptTail_builtinR (x:=w) pl.typeIs slot_tuple_getitem.lookup
  (getItem_tuple (j:=j) (Q:=fun r s'=>r=w/\EP X pins σ Q r s') pl (by omega) (by omega) (by rw[SE,<- hl];exact h1) (by simpa using ew) ⟨rfl,fin⟩) hs
theorem yI(its:List Value)(n j:Nat)(u:Value):UW (·.setIfInBounds j u) { cls:=.type "list",data:=.seq its.toArray n }={ cls:=.type "list",data:=.seq (its.set j u).toArray n }:=by simp[UW]
theorem Inv.lst{pins:List (Addr×Obj)}{σ:St}{H:Hp}{s:Shared}{p:Addr}{xs:List V}(I:Inv X pins σ H s)(h:H p=some (.lst xs)) :
  ∃(its:List Value) (n:Nat),Vals xs its/\s.heap.get? p=some { cls:=.type "list",data:=.seq its.toArray n }/\xs.length<=sizeLine:=by
 obtain⟨z,its,n,r,e⟩:=I.hok p _ h;exact⟨its,n,r,e,z⟩
theorem Inv.Lo{pins:List (Addr×Obj)}{σ:St}{H:Hp}{s:Shared}{p:Addr}{xs ys:List V}{its its':List Value}{n n':Nat}{f:Obj->Obj}(I:Inv X pins σ H s)(h:H p=some (.lst xs))
  (ho:s.heap.get? p=some { cls:=.type "list",data:=.seq its.toArray n }) (hf:f { cls:=.type "list",data:=.seq its.toArray n }={ cls:=.type "list",data:=.seq its'.toArray n' }) (r:Vals ys its') (hz:ys.length<=sizeLine) (t:Nat) :
  Inv X pins σ (upd H p (.lst ys)) { s with heap:=s.heap.update p f,toks:=t }:=by
 have e:(s.heap.update p f).get? p=some { cls:=.type "list",data:=.seq its'.toArray n' }:=by rw[Ua f ho (by rw[hf]<;>rfl),hf]
 refine I.write (x:=p) (e:=p) (by rw[h];trivial) (.inl rfl) (fun b u hb q=>(TM _ _ (Ne.symm hb)).trans q) ⟨_,e⟩ ?_;exact⟨hz,its',n',r,e⟩
noncomputable def Ju:V->V->V->Hp->(Hp->Prop)->Prop:=fun o i v H Q=>∃p xs k j,o=.ref p/\i=.int k/\H p=some (.lst xs)/\ixN xs.length k=some j/\Q (upd H p (.lst (xs.set j v)))
theorem set_list:Of X Ju:=by
 intro pins s σ H o i v ov iv u Q I ro ri rv h;obtain⟨p,xs,k,j,rfl,rfl,hp,hj,q⟩:=h;cases ro;obtain⟨t,rfl⟩:=ri;obtain⟨its,n,r,ho,hz⟩:=I.lst hp;obtain⟨h1,h2,h3,h4⟩:=z6 hj;have hl:=r.length;have hn:=pO;have I':Inv X pins σ (upd H p (.lst (xs.set j v))) { s with heap:=s.heap.update p (UW (·.setIfInBounds j u)) }:=
  I.Lo hp ho (yI its n j u) (r.set rv j) (by rw[S3];exact hz) s.toks
 by_cases h0:0<=k
 ·have hk:k.toNat=j:=by
   rw[seqIndex_of h0 h4]at h1;exact Option.some.inj h1
  exact PySem.W.ki_setAt ho h0 (by omega) (by rw[SE,<- hl];exact h4) (by rw[hk];exact⟨_,I',q⟩)
 ·have hk:(k+(its.toArray.size:Int)).toNat=j:=by
   rw[seqIndex_neg (by omega) h3]at h1;rw[SE,<- hl];exact Option.some.inj h1
  exact PySem.W.ki_setBack ho (by omega) (by rw[SE,<- hl];exact h3) (by omega) (by rw[hk];exact⟨_,I',q⟩)
theorem uJ(lo hi:Option Int)(n:Nat):(sliceBounds lo hi none n).1=((HT.sIx n 0 lo:Nat):Int)/\(sliceBounds lo hi none n).2.1=((HT.sIx n n hi:Nat):Int)/\(sliceBounds lo hi none n).2.2=1:=by
 refine⟨?_,?_,rfl⟩
 ·cases lo with
  |none=>simp[sliceBounds,HT.sIx]
  |some i=>
   simp only[sliceBounds,HT.sIx,Option.getD_none,show (1:Int)>0 by decide,if_true];by_cases h:i<0
   ·simp only[h,if_true]<;>omega
   ·simp only[h,if_false]<;>omega
 ·cases hi with
  |none=>simp[sliceBounds,HT.sIx]
  |some i=>
   simp only[sliceBounds,HT.sIx,Option.getD_none,show (1:Int)>0 by decide,if_true];by_cases h:i<0
   ·simp only[h,if_true]<;>omega
   ·simp only[h,if_false]<;>omega
theorem sJ(its:List Value)(lo hi:Option Int):slicePick its.toArray lo hi none=((its.drop (HT.sIx its.length 0 lo)).take (HT.sIx its.length its.length hi-HT.sIx its.length 0 lo)).toArray:=by obtain⟨h1,h2,h3⟩:=uJ lo hi its.toArray.size;unfold slicePick;rw[h1,h2,h3];simp only[sliceRange_one,pick_run,SE]<;>rfl
noncomputable def Oq(K:gV):V->Option Int->Option Int->Hp->VK->Prop:=fun x lo hi H Q=>∃a xs,x=.ref a/\SqL K H a xs/\∀p,H p=none->Q (.ref p) (upd H p (.lst (yH xs lo hi)))
theorem GS:SlR X (Oq X.K):=by intro pins s σ H x v vl vu lo hi sl Q I rx hs pl pu h;obtain⟨a,xs,rfl,hx,q⟩:=h;cases rx;obtain⟨its,r,ht,hz⟩:=I.list hx;have hlen:=r.length;refine⟨"list",_,slot_list_getitem.lookup,ht.isList.typeIs,?_⟩;refine wpAny_getItem_list_slice ht.isList hs pl pu .none (by simp) ?_ (by rw[SE]<;>omega);rw[sJ,<- hlen];refine⟨.ref s.heap.objs.size,_,I.laid (t':=s.toks) (o:=.lst (yH xs lo hi)) (fun b ob q=>PU _ q) (Sz _) ?_,rfl,q _ (I.hok.fresh (Sz _))⟩;exact⟨Tn (vU xs lo hi) hz,_,0,(r.drop (HT.sIx xs.length 0 lo)).take (HT.sIx xs.length xs.length hi-HT.sIx xs.length 0 lo),SY _ rfl⟩
theorem uK:fm X (.builtin "len") (fun xs H Q=>∃p ys,xs=[.ref p]/\(SqL X.K H p ys\/SqT X.K H p ys)/\Q (.int ys.length) H):=by
 intro pins s σ H xs us Q I r h;obtain⟨p,ys,rfl,hq,q⟩:=h;obtain⟨u,rfl,rx⟩:=vals1 r;cases rx;have hn:=pO;rcases hq with hq | hq
 ·obtain⟨its,r',pl,hz⟩:=I.list hq;have hlen:=r'.length;exact Calls.call_len_list pl.isList (by simp only[SE]<;>omega) ⟨.int ys.length,H,I.tok _,⟨s.toks+1,by rw[SE,hlen]⟩,q⟩
 ·obtain⟨its,r',pl,hz⟩:=I.tuple hq;have hlen:=r'.length;exact len_tuple pl (by simp only[SE]<;>omega) ⟨.int ys.length,H,I.tok _,⟨s.toks+1,by rw[SE,hlen]⟩,q⟩
theorem uL:fm X (.type "list") (fun xs H Q=>∃p ys,xs=[.ref p]/\(SqL X.K H p ys\/SqT X.K H p ys)/\∀l,H l=none->Q (.ref l) (upd H l (.lst ys))):=by
 intro pins s σ H xs us Q I r h;obtain⟨p,ys,rfl,hq,q⟩:=h;obtain⟨u,rfl,rx⟩:=vals1 r;cases rx;have fin:∀(its:List Value),Vals ys its->ys.length<=sizeLine->∀(h':Heap) (c':Nat),(∀b o',s.heap.get? b=some o'->h'.get? b=some o') ->
   h'.get? s.heap.objs.size=some { cls:=.type "list",dict:=none,data:=.seq its.toArray c',slots:=#[] }->EP X pins σ Q (.ref s.heap.objs.size) { s with heap:=h' }:=fun its r' hz h' c' kp e=>
  ⟨.ref s.heap.objs.size,_,I.laid (t':=s.toks) kp (Sz _) (show br X.prog X.w _ h' _ (.lst ys) from ⟨hz,its,c',r',e⟩),rfl,q _ (I.hok.fresh (Sz _))⟩
 rcases hq with hq | hq
 ·obtain⟨its,r',pl,hz⟩:=I.list hq;have hlen:=r'.length;obtain⟨o,ho,hc,n,hd⟩:=pl.isList;exact call_list_seq p (.inl rfl) ho hc hd (fun h' c' kp e=>fin its r' hz h' c' kp e) (by simp only[SE]<;>omega)
 ·obtain⟨its,r',pl,hz⟩:=I.tuple hq;have hlen:=r'.length;obtain⟨o,ho,hc,n,hd⟩:=pl;exact call_list_seq p (.inr rfl) ho hc hd (fun h' c' kp e=>fin its r' hz h' c' kp e) (by simp only[SE]<;>omega)
theorem sL:fm X (.type "tuple") (fun xs H Q=>∃p ys,xs=[.ref p]/\((SqL X.K H p ys/\∀l,H l=none->Q (.ref l) (upd H l (.tup ys)))\/(SqT X.K H p ys/\Q (.ref p) H))):=by
 intro pins s σ H xs us Q I r h;obtain⟨p,ys,rfl,h⟩:=h;obtain⟨u,rfl,rx⟩:=vals1 r;cases rx;rcases h with⟨hq,q⟩ | ⟨hq,q⟩
 ·obtain⟨its,r',pl,hz⟩:=I.list hq;have hlen:=r'.length;refine call_tuple_list pl.isList (fun h' kp=>?_) (by simp only[SE]<;>omega);have I1:Inv X pins σ H { s with heap:=h' }:=I.kept (t':=s.toks) kp;have I2:Inv X pins σ (upd H h'.objs.size (.tup ys)) { s with heap:=h'.push { cls:=.type "tuple",data:=.seq its.toArray } }:=
   I1.laid (t':=s.toks) (fun b o e=>PU _ e) (Sz _) (show br X.prog X.w _ _ _ (.tup ys) from ⟨hz,its,r',IsTup.new _ _⟩)
  exact⟨.ref h'.objs.size,_,I2,rfl,q _ (I1.hok.fresh (Sz _))⟩
 ·obtain⟨its,r',pl,hz⟩:=I.tuple hq;exact call_tuple_same pl ⟨.ref p,H,I,rfl,q⟩
noncomputable def tyV(K:gV)(T:String)(x:V)(H:Hp):Prop:=match x with
 |.str _=>T = "str"
 |.int _=>T = "int"
 |.ref p=>(T = "list" /\ ∃xs,SqL K H p xs)\/(T = "tuple" /\ ∃o,K.lookup p=some o/\o.cls=.type "tuple" /\ o.dict=none) \/
   (T = "dict" /\ ((∃kvs,H p=some (.dK kvs))\/∃kvs,H p=some (.dT kvs)))\/(T = "set" /\ ∃S n,H p=some (.set S n))
 |_=>False
theorem Lp{pins:List (Addr×Obj)}{σ:St}{H:Hp}{s:Shared}{T:String}{x:V}{v:Value}(I:Inv X pins σ H s)(r:RelV x v)(ty:tyV X.K T x H) :
  s.TypeIs v T/\∀a,v=.ref a->∃ob,s.heap.get? a=some ob/\ob.dict=none:=by
 cases x with
 |str z=>obtain⟨t,rfl⟩:=r;cases (show T = "str" from ty);exact⟨typeIs_str s z t,fun _ e=>nomatch e⟩
 |int i=>obtain⟨t,rfl⟩:=r;cases (show T = "int" from ty);exact⟨typeIs_int s i t,fun _ e=>nomatch e⟩
 |ref p=>
  cases r;rcases ty with⟨rfl,xs,hq⟩ | ⟨rfl,o,hk,hc,hd⟩ | ⟨rfl,hk⟩ | ⟨rfl,S,n,hk⟩
  ·obtain⟨its,_,pl,_⟩:=I.list hq;refine⟨pl.isList.typeIs,fun a e=>?_⟩;cases e;obtain⟨o,n,e,c,hd,_⟩:=pl;exact⟨o,e,hd⟩
  ·refine⟨⟨o,I.kIn p o hk,hc⟩,fun a e=>?_⟩;cases e;exact⟨o,I.kIn _ o hk,hd⟩
  ·have z:∃o,s.heap.get? p=some o/\o.ExactDict:=by
    rcases hk with⟨kvs,hk⟩ | ⟨kvs,hk⟩
    ·obtain⟨_,_,_,_,o,_,_,e,ex,_⟩:=I.hok p _ hk;exact⟨o,e,ex⟩
    ·obtain⟨_,_,_,_,o,_,_,e,ex,_⟩:=I.hok p _ hk;exact⟨o,e,ex⟩
   obtain⟨o,e,ex⟩:=z;refine⟨⟨o,e,ex.1⟩,fun a e2=>?_⟩;cases e2;exact⟨o,e,ex.2.1⟩
  ·obtain⟨o,_,_,_,e,ex,_⟩:=I.hok p _ hk;refine⟨⟨o,e,ex.1⟩,fun a e2=>?_⟩;cases e2;exact⟨o,e,ex.2.1⟩
 |_=>exact SQ ty
noncomputable def tBM(K:gV)(T:String)(r:V->List V->Hp->VK->Prop)(to:TE)(t:TA):TE:=fun σ H Q=>to σ H fun x H1=>tyV K T x H1/\t σ H1 fun xs H2=>r x xs H2 Q
variable{o e:Expr}{es:List Expr}{to:TE}{t:TA}{name:Str}{apos cpos:Pos}{T id:String}{r:V->List V->Hp->VK->Prop}
theorem vV(pa:PlainAttrs T)(slot:Slot T name id)(hty:typeOf (.builtin id)=pure (.type "method_descriptor"))(hm:MtR X id r)(ho:PE X o to)(ha:PA X (e::es) t)
  (hbase:attributeBase o name X.env (eval o X.env)=eval o X.env:=by rfl)
  (hfew:((backTo cpos (starEach (e::es) X.env)).all (fun x=>!x.1)&&(backToKw cpos (keywordEach [] X.env)).all (fun x=>x.1.isSome)
   && decide ((e::es).length+([]:List Keyword).length+(if ([]:List Keyword).isEmpty then 0 else 1)<30))=true:=by rfl)
  (hline:(apos.endLine == cpos.line)=true:=by rfl) (hs:starEach (e::es) X.env=(false,eval e X.env)::starEach es X.env:=by rfl) (hplain:(backTo cpos (starEach es X.env)).any (·.1)=false:=by rfl) :
  PE X (.Call (.Attribute o name apos) (e::es) [] cpos) (tBM X.K T r to t):=by
 intro pins s σ H Q I h;refine wpAny_Call_method_late hbase hfew hline rfl (thn (ho pins s σ H _ I h) fun v s1 ⟨x,H1,I1,r1,ty,q1⟩=>?_);obtain⟨h1,h2⟩:=Lp I1 r1 ty;refine⟨T,id,pa,slot,hty,h1,h2,?_⟩;have hA:=ha cpos pins s1 σ H1 _ I1 q1;rw[hs]at hA ⊢;refine Up (by show (false||(backTo cpos (starEach es X.env)).any (·.1))=false;rw[hplain]<;>rfl) (UH ?_);exact thn hA fun us s2 ⟨vs,H2,I2,r2,q2⟩=>hm pins s2 σ H2 x vs v us Q I2 r1 r2 q2
end
noncomputable def MtM(X:Cx)(id:String)(r:V->List V->Hp->VK->Prop):Prop:=
 ∀(pins:List (Addr×Obj)) (s:Shared) (σ:St) (H:Hp) (x:V) (xs:List V) (v:Value) (us:List Value) (Q:VK),Inv X pins σ H s->RelV x v->Vals xs us->r x xs H Q ->
  wpAny (model X.prog X.w) X.A (call (.builtin id) (v::us)) (EP X pins σ Q) X.xe s
theorem Vals.one:∀{x:V} {us:List Value},Vals [x] us->∃u,us=[u]/\RelV x u
 |_,_,.cons r .nil=>⟨_,rfl,r⟩
theorem Vals.eraseIdx:∀{xs:List V} {us:List Value} (i:Nat),Vals xs us->Vals (xs.eraseIdx i) (us.eraseIdx i)
 |_,_,_,.nil=>.nil
 |_,_,0,.cons _ t=>t
 |_,_,i+1,.cons r t=>.cons r (Vals.eraseIdx i t)
theorem Vals.rep{xs:List V}{us:List Value}(h:Vals xs us):∀k:Nat,Vals (Dp k xs).flatten (Dp k us).flatten
 |0=>.nil
 |k+1=>by rw[T5,T5,T4,T4];exact Vals.append h (Vals.rep h k)
theorem tN{α:Type}:∀(l:List α) (i:Nat),(l.eraseIdx i).length<=l.length
 |[],_=>Sz _
 |_::_,0=>VB _
 |_::r,i+1=>Nat.succ_le_succ (tN r i)
theorem foldl_rep(its:List Value):∀(k:Nat) (acc:List Value),
  VP (fun x1 x2=>x1++x2) acc.toArray (Dp k its.toArray)=(acc++(Dp k its).flatten).toArray
 |0,acc=>by simp
 |k+1,acc=>by
  have e:acc.toArray++its.toArray=(acc++its).toArray:=by simp
  have e2:(acc++its)++(Dp k its).flatten=acc++(Dp (k+1) its).flatten:=by rw[T5,T4,Vm]
  rw[<- e2,<- foldl_rep its k (acc++its),<- e,T5,List.foldl_cons]
section
variable{X:Cx}{pins:List (Addr×Obj)}{σ:St}{H:Hp}{s:Shared}{l b:Addr}{xs ys zs:List V}
theorem Inv.Lq{its its':List Value}{n:Nat}{f:Array Value->Array Value}{t':Nat}(I:Inv X pins σ H s)(hH:H l=some (.lst xs))
  (e:s.heap.get? l=some { cls:=.type "list",data:=.seq its.toArray n }) (hf:f its.toArray=its'.toArray) (hv:Vals ys its') (hz:ys.length<=sizeLine) :
  Inv X pins σ (upd H l (.lst ys)) { s with heap:=s.heap.update l (UW f),toks:=t' }:=by
 have q:=PySem.IsL.update e f;rw[hf]at q;refine I.write (x:=l) (e:=l) (by rw[hH];exact trivial) (.inl rfl) (fun b' u hb hu=>(TM s.heap (UW f) (Ne.symm hb)).trans hu) ⟨_,q⟩ ?_;exact⟨hz,its',_,hv,q⟩
theorem Inv.Lr{its:List Value}{t':Nat}(I:Inv X pins σ H s)(hv:Vals ys its)(hz:ys.length<=sizeLine) :
  Inv X pins σ (upd H s.heap.objs.size (.lst ys)) { s with heap:=s.heap.push { cls:=.type "list",data:=.seq its.toArray },toks:=t' }:=
 I.laid (fun _ _ q=>PU _ q) (Sz _) ⟨hz,its,0,hv,SY _ rfl⟩
theorem Inv.fresh(I:Inv X pins σ H s):H s.heap.objs.size=none:=I.hok.fresh (Sz _)
theorem Inv.Ls(I:Inv X pins σ H s)(hH:H l=some (.lst xs)):xs.length<=sizeLine/\∃(its:List Value) (n:Nat),Vals xs its/\xs.length=its.length/\s.heap.get? l=some { cls:=.type "list",data:=.seq its.toArray n }:=by obtain⟨z,its,n,r,e⟩:=I.hok l _ hH;exact⟨z,its,n,r,r.length,e⟩
theorem vW{n:Nat}(h:n<=sizeLine):Uz n=false:=by unfold Uz;exact decide_eq_false (by omega)
end
section
variable{X:Cx}
noncomputable def pA:V->List V->Hp->VK->Prop:=fun x vs H Q=>∃l xs y,x=.ref l/\vs=[y]/\H l=some (.lst xs)/\xs.length<sizeLine/\Q .non (upd H l (.lst (xs++[y])))
theorem jC:MtM X "list.append" pA:=by intro pins s σ H x vs v us Q I rx rv h;obtain⟨l,xs,y,rfl,rfl,hH,hz,q⟩:=h;cases rx;obtain⟨u,rfl,ru⟩:=rv.one;obtain⟨z,its,n,r,hl,e⟩:=I.Ls hH;refine call_meets F.slot_list_append ⟨_,e,rfl⟩ F.entry_list_append (F.args_list_append_2 _ _) (PySem.list_append l its.toArray n u (by rw[SE];omega)) ⟨e,?_⟩;refine⟨.non,_,I.Lq (its':=its++[u]) hH e (by simp) (r.append (.cons ru .nil)) ?_,rfl,q⟩;rw[SK,TQ];omega
noncomputable def CM:V->List V->Hp->VK->Prop:=fun x vs H Q=>∃l xs i k y,x=.ref l/\vs=[.int i]/\H l=some (.lst xs)/\-(2 ^ 63)<=i/\i<2 ^ 63/\seqIndex? i xs.length=some k/\xs[k]?=some y/\Q y (upd H l (.lst (xs.eraseIdx k)))
theorem CN:MtM X "list.pop" CM:=by
 intro pins s σ H x vs v us Q I rx rv h;obtain⟨l,xs,i,k,y,rfl,rfl,hH,h1,h2,hk,hy,q⟩:=h;cases rx;obtain⟨u,rfl,ru⟩:=rv.one;obtain⟨t,rfl⟩:=ru;obtain⟨z,its,n,r,hl,e⟩:=I.Ls hH;obtain⟨w,hw,rw'⟩:=r.get hy;refine call_meets F.slot_list_pop ⟨_,e,rfl⟩ F.entry_list_pop (F.args_list_pop_2 _ _)
  (MeetsSeq.list_pop_at l its.toArray n i t k w (fitsIndex_both h1 h2) (by rw[SE,<- hl];exact hk) (by rw[<- UE];exact hw) (by rw[SE];omega)) ⟨e,?_⟩
 refine⟨y,_,I.Lq (its':=its.eraseIdx k) hH e ?_ (r.eraseIdx k) ?_,rw',q⟩
 ·show its.toArray.eraseIdxIfInBounds k=(its.eraseIdx k).toArray;rw[List.eraseIdxIfInBounds_toArray]
 ·have:=tN xs k;omega
theorem len_rep{α:Type}(xs:List α)(k:Nat):(Dp k xs).flatten.length=k*xs.length:=by
 induction k with
 |zero=>simp
 |succ k ih=>rw[T5,T4,SK,ih,Nat.succ_mul,Nat.add_comm]
end
end L2
namespace Att
open PySem PySem.W PySem.Calls PyProof.Rows
theorem oY{P:Params}{h:Heap}:∀(ns:List Int) (vs:List Value),WellAll P h vs (ns.map WData.int)->IntsAre vs ns:=by
 intro ns
 induction ns with
 |nil=>intro vs w;rw[U5]at w;cases w;exact .nil
 |cons n ns ih=>
  intro vs w;rw[Dk]at w;cases w with
  |cons a b=>cases a;exact .cons _ _ (ih _ b)
theorem Bo{l:OpenLaw}{n:Nat}(hn:l.most=some n){P:Params}{h:Heap}{args:List WData}{vals:List Value}
  (hpre:l.row.toRowW.claim.pre args=true) (hwl:WellAll P h vals args) :
  ∃a vs ns,vals=[S4 a]/\args=[WData.list (ns.map WData.int)]/\h.get? a=some { cls:=.type "list",data:=.seq vs.toArray }/\IntsAre vs ns/\ns.length<=n:=by
 have hsh:WShape.hasAll [] args [.list .int]=true:=(pre_splitW hpre).1;have hc:l.pre.holds [] { args:=args }=true:=(pre_splitW hpre).2;obtain⟨d,r,rfl,h1,h2⟩:=hasAllW_cons hsh;obtain rfl:=hasAllW_nil h2;obtain⟨xs,rfl,h3⟩:=hasW_list h1;obtain⟨ns,rfl⟩:=items_int h3;have hlen:ns.length<=n:=by
  unfold OpenLaw.pre at hc;have h4:(WTm.not (.lt (.lit (.int (n:Int))) (.len (.arg 0)))).holds [] { args:=[.list (ns.map .int)] }=true:=by have h4:=(holds_andW hc).1;rw[hn]at h4;exact h4
  have h5:=condW_of h4 (w_not (w_lt w_lit (w_len_list (w_arg rfl))));rw[Sx]at h5;refine Nat.le_of_not_lt fun q=>?_;have q':(n:Int)<((ns.length:Nat):Int):=by omega
  first
   |(rw[decide_eq_true q']at h5;exact absurd h5 (by decide))
   |(simp at h5;omega)
 cases hwl with
 |cons w1 w2=>
  cases w2;cases w1 with
  |list ho hall=>exact⟨_,_,ns,rfl,rfl,ho,oY ns _ hall,hlen⟩
theorem Bp(l:OpenLaw)(args:List WData):l.row.toRowW.claim.post args (.bool true) args=true:=
 postW_of (r:=l.row.toRowW) (X:=(true == true))
  (show WShape.has [] (.bool true) .bool=true by first | rfl | decide | simp[WShape.has,WShape.arms,WShape.armsAll])
  (show (WTm.eq .res (.lit (.bool true))).value [] { args:=args,res:=some (.bool true),after:=args }=some (.bool (true == true)) from w_eq_bool (w_res rfl) w_lit) rfl
theorem vX{l:OpenLaw}{n:Nat}{q:Program}{loose:List Str}{XP:(Str->Option Value)->Heap->Prop}{YP:World->Heap->Prop}{d:DefRec}
  (hn:l.most=some n) (hdf:d.params.defaults=[])
  (call:∀ (w:World) (s₀ s₁:Shared) (mg mb:Str→Option Value) (fa:Addr) (o:Obj) (pm cd doc:Value) (a:Addr) (vs:List Value) (ns:List Int),
   Ground q loose [] XP w s₀ mg mb s₁.heap->YP w s₁.heap ->
   s₁.heap.get? fa=some o->o.data=.func (docDef d.name d.params d.body d.scope pm cd doc)->s₁.heap.CodeRec cd d.name->mg d.name=some (.ref fa) ->
   s₁.heap.get? a=some { cls:=.type "list",data:=.seq vs.toArray }->IntsAre vs ns->ns.length<=n->s₁.gens=#[] ->
   codeAny (model l.prog w) callerA (.call (.ref fa) ⟨[.ref a],[]⟩) (fun r s'=>r=.ok (.ret (.bool true))/\OldK s₁.heap s'.heap/\s'.os=s₁.os/\AllBare s'.gens) s₁) :
  WalkO q loose XP YP l.row.toRowW d [] (fun f vs=>PySem.call f vs):=by
 intro w s₀ s₁ mg mb G Y fa o pm cd doc dV kV ho hd hcd hD hmg hg args vals as hpre hlay hrd hwl hlo;obtain rfl:dV=.none:=Dflts.none hD hdf;obtain rfl:kV=.none:=Dflts.noKw hD;obtain⟨a,vs,ns,rfl,rfl,hobj,hints,hlen⟩:=Bo hn hpre hwl;refine enter_call (codeAny_mono (call w s₀ s₁ mg mb fa o pm cd doc a vs ns G Y ho (fd_plain hd) hcd hmg hobj hints hlen hg) fun r s' hq=>?_);obtain⟨rfl,h2,h3,h4⟩:=hq;exact⟨.inl ⟨.bool true,.bool true,[],rfl,fun _=>rfl,.bool true,Bp l _,fun _=>⟨List.Pairwise.nil,fun _ hm=>(nomatch hm)⟩⟩,h2,h3,h4⟩
end Att
namespace L2
open PySem PySem.Spec PyProof.Rows
theorem gI:∀{vs:List Value} {ns:List Int},IntsAre vs ns->Vals (ns.map V.int) vs
 |_,_,.nil=>.nil
 |_,_,.cons n t h=>.cons ⟨t,rfl⟩ (gI h)
noncomputable def Lu(H:Hp):Prop:=∀b,H b=none\/∃o xs,H b=some (.frz o (.lst xs))
theorem CO{P:Program}{w:World}{K:gV}{mg mb:Str->Option Value}{CX:CXT}{k:Nat}{fa a:Addr}{fd:FuncData}{x:Str}{sp:Sp}{s₁:Shared}{vs:List Value}{ns:List Int}
  (KX:K.In s₁.heap) (hns:s₁.heap.Ns mainGlobals mg) (hb:s₁.heap.Ns builtinsNs mb) (hbb:∀x:Str,x ≠ "__name__" -> mb x=bootBuiltins x) (hlim:s₁.heap.NoLimit) (hg:s₁.gens=#[])
  (ha:s₁.heap.get? a=some { cls:=.type "list",data:=.seq vs.toArray }) (hi:IntsAre vs ns) (hl:ns.length<=sizeLine) (hr:b5 k callerA)
  (F:∀base:Heap,K.In base->base.Ns mainGlobals mg->aV P w K mg base CX k fa fd [x] sp) (hbind:∀(s:Shared) (u:Value),BindsTo s fd ⟨[u],[]⟩ [(x,u)])
  (hsp:∀H:Hp,Lu H->SqL K H a (ns.map V.int)->sp [.ref a] H (fun v _=>v=.bl true) fun _ _ _=>False)
  (hCX:∀H e s',CX [] H s₁ (fun _ _ _=>False) e s'->False) :
  codeAny (model P w) callerA (.call (.ref fa) ⟨[.ref a],[]⟩) (fun r s'=>r=.ok (.ret (.bool true))/\OldK s₁.heap s'.heap/\s'.os=s₁.os/\AllBare s'.gens) s₁:=by
 have rv:=gI hi;have Rg:=hi.length;have core:∀H:Hp,Lu H->SqL K H a (ns.map V.int)->HOk P w H s₁.heap->(∀b,H b≠none->b=a)->(H a≠none->K.lookup a=none) ->
   codeAny (model P w) callerA (.call (.ref fa) ⟨[.ref a],[]⟩) (fun r s'=>r=.ok (.ret (.bool true))/\OldK s₁.heap s'.heap/\s'.os=s₁.os/\AllBare s'.gens) s₁:=by
  intro H hO hS hok hA hK;have z_:∀{b:Addr} {o:Obj},s₁.heap.get? b=some o->H b=none->(uA s₁.heap H).get? b=some o:=fun e n=>Cm e n;have noA:∀{b:Addr} {o:Obj} {es:Array DictEntry} {ep:Nat},s₁.heap.get? b=some o->o.data=.dict es ep->H b=none:=fun {b o es ep} e d=>by
   cases q:H b with
   |none=>rfl
   |some u=>have e':b=a:=hA b (by rw[q];simp);subst e';rw[ha]at e;cases e;have d':Data.seq vs.toArray _=Data.dict es ep:=d;cases d'
  have nsK:∀{b:Addr} {m:Str->Option Value},s₁.heap.Ns b m->(uA s₁.heap H).Ns b m:=fun {b m} ⟨o,es,ep,e,d,r⟩=>⟨o,es,ep,z_ e (noA e d),d,r⟩;have hKb:K.In (uA s₁.heap H):=fun b o e=>z_ (KX b o e) (by
   cases q:H b with
   |none=>rfl
   |some u=>have e':b=a:=hA b (by rw[q];simp);subst e';rw[hK (by rw[q];simp)]at e;cases e)
  have hM:Mod K mg (uA s₁.heap H):=⟨hKb,nsK hns,⟨mb,nsK hb,hbb⟩,let ⟨mc,h1,h2⟩:=hlim;⟨mc,nsK h1,h2⟩⟩
  have e0:GP P w K mg (uA s₁.heap H) callerA [] s₁ H:=⟨rfl,hM,fun b o e=>GG e,Nat.le_of_eq (A9 _ _),trivial,fun b hb=>absurd (show b∈([]:List Addr) from hb) (by simp),hok,.of_eq hg⟩
  refine codeAny_mono ((F _ hKb (nsK hns)).run callerA [] s₁ H ⟨[.ref a],[]⟩ [.ref a] [.ref a] _ _ hr e0 (hbind s₁ (.ref a)) (.cons rfl .nil) (hsp H hO hS)) fun r s' h=>?_;cases r with
  |error e=>exact(hCX H e s' h).elim
  |ok fl=>
   cases fl with
   |next=>exact SQ h
   |brk=>exact SQ h
   |cont=>exact SQ h
   |ret u=>
    obtain⟨v,H',os,bare,un,Rh,r',q⟩:=h;have q':v=.bl true:=q;subst q';obtain rfl:u=VO true:=r';refine⟨rfl,OldK.of_keep fun b o e=>?_,os,bare⟩;cases q:H b with
    |none=>exact un.keep b o e q (by intro z;exact absurd (show b∈([]:List Addr) from z) (by simp)) (by simp)
    |some u=>
     rcases hO b with z | ⟨ob,xs,z⟩
     ·rw[q]at z;cases z
     ·have z2:=un.jZ b ob _ z;obtain⟨e1,_⟩:=hok b _ z;obtain⟨e2,_⟩:=Rh b _ z2;rw[e]at e1;cases e1;exact e2
 cases hk:K.lookup a with
 |some o=>have e:=KX a o hk;rw[ha]at e;cases e;refine core (fun _=>none) (fun _=>.inl rfl) (.inr ⟨_,vs.toArray,_,hk,rfl,rfl,rfl,by rw[SE,Rg];exact hl,by simpa using rv⟩) (fun b u z=>by have z':(none:Option HO)=some u:=z;cases z') (fun b z=>absurd rfl z) fun z=>absurd rfl z
 |none=>
  refine core (fun b=>if b=a then some (.frz { cls:=.type "list",data:=.seq vs.toArray } (.lst (ns.map V.int))) else none) (fun b=>?_) (.inl (.inr ⟨{ cls:=.type "list",data:=.seq vs.toArray },if_pos rfl⟩)) (fun b u z=>?_) (fun b z=>?_) fun _=>hk
  ·by_cases hb:b=a
   ·exact .inr ⟨_,_,if_pos hb⟩
   ·exact .inl (if_neg hb)
  ·by_cases hb:b=a
   ·have z':=(if_pos hb).symm.trans z;cases z';subst hb;exact⟨ha,by rw[Sx];exact hl,vs,_,rv,ha⟩
   ·have z':=(if_neg hb).symm.trans z;cases z'
  ·by_cases hb:b=a
   ·exact hb
   ·exact absurd (if_neg hb) z
theorem GU{l:Vz}{n k:Nat}{q:Program}{loose:List Str}{XP:(Str->Option Value)->Heap->Prop}{YP:World->Heap->Prop}{d:DefRec}{K:Params->gV}{CX:World->CXT}{sp:World->Sp}{x:Str}
  (hn:l.most=some n) (hn2:n<=sizeLine) (hdf:d.params.defaults=[]) (hr:b5 k callerA)
  (hY:∀(w:World) (h:Heap),YP w h->(K w.params).In h)
  (F:∀ (w:World) (mg:Str→Option Value) (fa:Addr) (h:Heap),(K w.params).In h→h.Ns mainGlobals mg→mg d.name=some (.ref fa) →
   ∃fd:FuncData,(∀(s:Shared) (u:Value),BindsTo s fd ⟨[u],[]⟩ [(x,u)]) /\
    ∀base:Heap,(K w.params).In base->base.Ns mainGlobals mg->aV l.prog w (K w.params) mg base (CX w) k fa fd [x] (sp w))
  (hsp:∀(w:World) (H:Hp) (a:Addr) (ns:List Int),ns.length<=n->Lu H->SqL (K w.params) H a (ns.map V.int)->sp w [.ref a] H (fun v _=>v=.bl true) fun _ _ _=>False)
  (hCX:∀(w:World) (H:Hp) (s:Shared) (e:Value) (s':Shared),CX w [] H s (fun _ _ _=>False) e s'->False) :
  PySem.W.WalkO q loose XP YP l.row.toRowW d [] (fun f vs=>PySem.call f vs):=by
 refine Att.vX hn hdf fun w s₀ s₁ mg mb fa o pm cd doc a vs ns G Y ho hd hcd hmg hobj hints hlen hg=>?_;have KX:=hY w _ Y;obtain⟨fd,hb,hF⟩:=F w mg fa _ KX G.T.g hmg;exact CO KX G.T.g G.T.b G.T.builtins G.T.nolimit hg hobj hints (Tn hlen hn2) hr hF hb (fun H hO hS=>hsp w H a ns hlen hO hS) fun H e s'=>hCX w H s₁ e s'
noncomputable def bx(s:Stmt):Arguments:=match s with
 |.FunctionDef _ a _ _ _ _ _ _ _ _=>a
 |_=>{ posonlyargs:=[],args:=[],vararg:=none,kwonlyargs:=[],kw_defaults:=[],kwarg:=none,defaults:=[] }
noncomputable def aW(s:Stmt):List Stmt:=match s with
 |.FunctionDef _ _ b _ _ _ _ _ _ _=>b
 |_=>[]
noncomputable def ai(s:Stmt):Scope:=match s with
 |.FunctionDef _ _ _ _ _ _ sc _ _ _=>sc
 |_=>{ kind:=.function,names:=[],isGenerator:=false,isCoroutine:=false }
noncomputable abbrev CX0:CXT:=fun _ _ _ _ _ _=>False
noncomputable abbrev E0:XK:=fun _ _ _=>False
theorem vY{X:Cx}:Passes CX0 X E0:=fun _ _ _ _ _ _ _ h=>h.elim
structure Fun(K:gV)(x qual:Str)(st:Stmt)(f:Addr)(fd:FuncData):Prop where
 ex:∃(oc:Value) (od:Option Addr) (kV doc pm:Value) (an:Option Addr) (cdv ct:Value) (osl:Array (Option Value)),
  fd=S5 x qual (bx st) (aW st) (ai st) .none kV doc pm an cdv ct/\K.lookup f=some ⟨oc,od,.func fd,osl⟩/\Uv K cdv qual=true
 kp:Tw K (.ref f)=true
section
variable{P:Program}{w:World}{K:gV}{mg:Str->Option Value}{base:Heap}
theorem Fun.ok{x qual:Str}{st:Stmt}{f:Addr}{fd:FuncData}{N ps:List Str}{k:Nat}{sp:Sp}(F:Fun K x qual st f fd)(S:aA N ps (ai st))(len:∀vs H Q E,sp vs H Q E->vs.length=ps.length)
  (hbody:∀ (cdv:Value) (A:Around) (outer:List Env) (s:Shared) (H:Hp) (vs:List V) (Q:VK) (E:XK),b5 k (A.deeper (envOfC qual (ai st) s.heap.objs.size f cdv))→sp vs H Q E →
   ∃t,PSs (gT CX0 P w K mg base N qual (ai st) f cdv A outer s H E).nox (aW st) t/\t { nx:=fun _ H'=>Q .non H',rt:=Q } (start N vs) H):aV P w K mg base CX0 (k+1) f fd ps sp:=by
 obtain⟨oc,od,kV,doc,pm,an,cdv,ct,osl,rfl,lk,hcd⟩:=F.ex;refine z5 lk hcd S len fun A outer s H vs Q E hr hsp=>?_;obtain⟨t,h,q⟩:=hbody cdv A outer s H vs Q E hr hsp;exact⟨t,h.nox,q⟩
theorem Fun.binds{x qual:Str}{st:Stmt}{f:Addr}{fd:FuncData}{ps:List Str}(F:Fun K x qual st f fd)
  (h:∀(kV doc pm:Value) (an:Option Addr) (cdv ct:Value) (us:List Value),us.length=ps.length->bindArgs (S5 x qual (bx st) (aW st) (ai st) .none kV doc pm an cdv ct) ⟨us,[]⟩=pure (ps.zip us)):Binds K fd ps []:=by
 obtain⟨oc,od,kV,doc,pm,an,cdv,ct,osl,rfl,lk,hcd⟩:=F.ex;exact .all (h kV doc pm an cdv ct)
theorem Lv{x qual:Str}{st:Stmt}{f:Addr}{oc:Value}{od an:Option Addr}{osl:Array (Option Value)}{kV doc pm cdv ct:Value}(l:K.lookup f=some ⟨oc,od,.func (S5 x qual (bx st) (aW st) (ai st) .none kV doc pm an cdv ct),osl⟩)
  (c:Uv K cdv qual=true) (k:Tw K (.ref f)=true):Fun K x qual st f (S5 x qual (bx st) (aW st) (ai st) .none kV doc pm an cdv ct):=⟨⟨oc,od,kV,doc,pm,an,cdv,ct,osl,rfl,l,c⟩,k⟩
end
theorem Bq{n:Nat}(h:n<=1000):n<sizeLine:=UR h (by decide)
noncomputable def av(H H':Hp):Prop:=∀b o,H b=some o->H' b=some o
theorem av.refl(H:Hp):av H H:=fun _ _ h=>h
theorem av.trans{H H1 H2:Hp}(a:av H H1)(b:av H1 H2):av H H2:=fun c o h=>b c o (a c o h)
theorem av.free{H H':Hp}(e:av H H'){l:Addr}(h:H' l=Option.none):H l=Option.none:=by
 cases q:H l with
 |none=>rfl
 |some o=>rw[e l o q]at h;cases h
section
variable{κ:Type}[DecidableEq κ]
noncomputable def fP(kvs:List (κ×V))(k:κ):Option V:=(kvs.find? fun kv=>decide (kv.1=k)).map (·.2)
noncomputable def putK(kvs:List (κ×V))(k:κ)(v:V):List (κ×V):=
 if (kvs.any fun kv=>decide (kv.1=k))=true then kvs.map (fun kv=>if kv.1=k then (kv.1,v) else kv) else kvs++[(k,v)]
noncomputable def nR(kvs:List (κ×V))(k:κ):List (κ×V):=kvs.filter fun kv=>decide (kv.1≠k)
theorem iQ{p:κ×V}{r:List (κ×V)}{k:κ}(e:p.1=k):fP (p::r) k=some p.2:=by simp[fP,TL,e]
theorem gJ{p:κ×V}{r:List (κ×V)}{k:κ}(e:¬p.1=k):fP (p::r) k=fP r k:=by simp[fP,TL,e]
theorem vZ(k:κ):∀kvs:List (κ×V),(kvs.any fun kv=>decide (kv.1=k))=(fP kvs k).isSome
 |[]=>rfl
 |p::r=>by
  rw[Ui];by_cases e:p.1=k
  ·simp only[iQ e,decide_eq_true e,Bool.true_or,Vf]
  ·rw[gJ e,decide_eq_false e,Bool.false_or];exact vZ k r
theorem gk(kvs:List (κ×V))(k:κ)(v:V):(putK kvs k v).length<=kvs.length+1:=by
 unfold putK;split
 ·rw[Sx];omega
 ·rw[SK,Tt,List.length_nil];omega
theorem lQ.gK{o:Option V}{u:Option Value}(r:lQ o u):o.isSome=u.isSome:=by
 cases o with
 |none=>cases u with
  |none=>rfl
  |some _=>exact(show False from r).elim
 |some _=>cases u with
  |none=>exact(show False from r).elim
  |some _=>rfl
theorem lQ.getD{o:Option V}{u:Option Value}{d:V}{d':Value}(r:lQ o u)(rd:RelV d d'):RelV (o.getD d) (u.getD d'):=by
 cases o with
 |none=>cases u with
  |none=>exact rd
  |some _=>exact(show False from r).elim
 |some _=>cases u with
  |none=>exact(show False from r).elim
  |some _=>exact r
theorem KV.val{kvs:List (κ×V)}{vs:List (κ×Value)}(r:KV kvs vs)(k:κ):lQ (fP kvs k) (valueAt vs k):=by
 unfold KV at r
 induction r with
 |nil=>exact T8
 |@cons p q ps qs h t ih=>
  obtain⟨h1,h2⟩:=h;by_cases e:p.1=k
  ·have e':q.1=k:=h1.symm.trans e;have b:valueAt (q::qs) k=some q.2:=by simp[valueAt,TL,e']
   rw[iQ e,b];exact h2
  ·have e':¬q.1=k:=fun z=>e (h1.trans z);have b:valueAt (q::qs) k=valueAt qs k:=by simp[valueAt,TL,e']
   rw[gJ e,b];exact ih
theorem KV.any{kvs:List (κ×V)}{vs:List (κ×Value)}(r:KV kvs vs)(k:κ):(kvs.any fun kv=>decide (kv.1=k))=vs.any fun kv=>decide (kv.1=k):=by
 unfold KV at r
 induction r with
 |nil=>rfl
 |cons h t ih=>rw[Ui,Ui,ih,h.1]
theorem KV.repl{kvs:List (κ×V)}{vs:List (κ×Value)}(r:KV kvs vs)(k:κ){y:V}{u:Value}(ry:RelV y u) :
  KV (kvs.map fun kv=>if kv.1=k then (kv.1,y) else kv) (vs.map fun kv=>if kv.1=k then (kv.1,u) else kv):=by
 unfold KV at r ⊢
 induction r with
 |nil=>exact .nil
 |@cons p q ps qs h t ih=>
  rw[Dk,Dk];refine .cons ?_ ih;obtain⟨h1,h2⟩:=h;by_cases e:p.1=k
  ·rw[if_pos e,if_pos (h1.symm.trans e)];exact⟨h1,ry⟩
  ·rw[if_neg e,if_neg (fun z=>e (h1.trans z))];exact⟨h1,h2⟩
theorem KV.put{kvs:List (κ×V)}{vs:List (κ×Value)}(r:KV kvs vs)(k:κ){y:V}{u:Value}(ry:RelV y u):KV (putK kvs k y) (stored vs k u):=by
 unfold putK stored;rw[r.any k];by_cases e:(vs.any fun kv=>decide (kv.1=k))=true
 ·rw[if_pos e,if_pos e];exact r.repl k ry
 ·rw[if_neg e,if_neg e];exact Paired.snoc r ⟨rfl,ry⟩
theorem KV.drop{kvs:List (κ×V)}{vs:List (κ×Value)}(r:KV kvs vs)(k:κ):KV (nR kvs k) (without vs k):=by
 unfold KV at r ⊢;unfold nR without
 induction r with
 |nil=>exact .nil
 |@cons p q ps qs h t ih=>
  obtain⟨h1,h2⟩:=h;rw[U0,U0];by_cases e:p.1=k
  ·have a:¬decide (p.1≠k)=true:=by simp[e]
   have b:¬decide (q.1≠k)=true:=by simp[h1.symm.trans e]
   rw[if_neg a,if_neg b];exact ih
  ·have e':¬q.1=k:=fun z=>e (h1.trans z);have a:decide (p.1≠k)=true:=by simp[e]
   have b:decide (q.1≠k)=true:=by simp[e']
   rw[if_pos a,if_pos b];exact .cons ⟨h1,h2⟩ ih
theorem KV.length{kvs:List (κ×V)}{vs:List (κ×Value)}(r:KV kvs vs):kvs.length=vs.length:=Paired.length r
theorem CQ(kvs:List (κ×V))(k:κ):(nR kvs k).length<=kvs.length:=List.length_filter_le _ _
end
theorem lV{P:Program}{w:World}{k:Key}{u:Value}(r:RelV (kV k) u):(a_ P w).is k u=true:=by
 cases k with
 |inl i=>obtain⟨t,e⟩:=(show ∃t,u=Value.int i t from r);subst e;exact vM P w i t
 |inr x=>obtain⟨t,e⟩:=(show ∃t,u=Vu x t from r);subst e;exact vN P w x t
theorem tO{P:Program}{w:World}:∀{ks:List Key} {us:List Value},Vals (ks.map kV) us->ItemsAre (a_ P w) ks us
 |[],_,r=>by rw[U5]at r;cases r;exact .nil
 |k::ks,_,r=>by
  rw[Dk]at r;cases r with
  |cons h t=>exact .cons (lV h) (tO t)
noncomputable abbrev KT(H:Hp):List (List Key×V)->List (List Key×Addr×Value)->Prop:=Paired fun p q=>p.1=q.1/\H q.2.1=some (.tup (p.1.map kV))/\RelV p.2 q.2.2
theorem KT.val{H:Hp}{kvs:List (List Key×V)}{xs:List (List Key×Addr×Value)}(r:KT H kvs xs)(k:List Key):lQ (fP kvs k) ((atKey xs k).map (·.2)):=by
 induction r with
 |nil=>exact T8
 |@cons p q ps qs h t ih=>
  obtain⟨h1,_,h2⟩:=h;by_cases e:p.1=k
  ·have e':q.1=k:=h1.symm.trans e;have b:atKey (q::qs) k=some q.2:=by simp[atKey,TL,e']
   rw[iQ e,b];exact h2
  ·have e':¬q.1=k:=fun z=>e (h1.trans z);have b:atKey (q::qs) k=atKey qs k:=by simp[atKey,TL,e']
   rw[gJ e,b];exact ih
theorem KT.repl{H:Hp}{kvs:List (List Key×V)}{xs:List (List Key×Addr×Value)}(r:KT H kvs xs)(k:List Key){y:V}{u:Value}(ry:RelV y u) :
  KT H (kvs.map fun kv=>if kv.1=k then (kv.1,y) else kv) (xs.map (putAt k u)):=by
 induction r with
 |nil=>exact .nil
 |@cons p q ps qs h t ih=>
  rw[Dk,Dk];refine .cons ?_ ih;obtain⟨h1,h2,h3⟩:=h;unfold putAt;by_cases e:p.1=k
  ·rw[if_pos e,if_pos (h1.symm.trans e)];exact⟨h1,h2,ry⟩
  ·rw[if_neg e,if_neg (fun z=>e (h1.trans z))];exact⟨h1,h2,h3⟩
theorem KT.put{H:Hp}{kvs:List (List Key×V)}{xs:List (List Key×Addr×Value)}(r:KT H kvs xs)(k:List Key){b:Addr}{y:V}{u:Value}(hb:H b=some (.tup (k.map kV)))(ry:RelV y u) :
  KT H (putK kvs k y) (storedH xs k b u):=by
 have e:(kvs.any fun kv=>decide (kv.1=k))=(atKey xs k).isSome:=by rw[vZ,(r.val k).gK,UD]
 unfold putK storedH;rw[e];by_cases q:(atKey xs k).isSome=true
 ·rw[if_pos q,if_pos q];exact r.repl k ry
 ·rw[if_neg q,if_neg q];exact Paired.snoc r ⟨rfl,hb,ry⟩
theorem KT.keeps{H H':Hp}{kvs:List (List Key×V)}{xs:List (List Key×Addr×Value)}(r:KT H kvs xs)(ht:∀b ys,H b=some (.tup ys)->H' b=some (.tup ys)):KT H' kvs xs:=
 Paired.KS r fun _ _ z=>⟨z.1,ht _ _ z.2.1,z.2.2⟩
section
variable{P:Program}{w:World}{H:Hp}{h:Heap}{a:Addr}
theorem Jv{u:HO}(ok:HOk P w H h)(e:Rd H a u):br P w H h a u:=e.ok ok
theorem nS{kvs:List (Key×V)}(ok:HOk P w H h)(e:Rd H a (.dK kvs)):kvs.length<=sizeLine/\(a == sysModules)=false/\∃vs,KV kvs vs/\h.DictOf (a_ P w) a vs:=
 show br P w H h a (.dK kvs) from Jv ok e
theorem pP{kvs:List (Key×V)}(ok:HOk P w H h)(e:H a=some (.dK kvs)):kvs.length<=sizeLine/\(a == sysModules)=false/\∃vs,KV kvs vs/\h.DictOf (a_ P w) a vs:=nS ok (.inl e)
theorem m9{ks:List Key}(ok:HOk P w H h)(e:H a=some (.tup (ks.map kV))):(tupleKind (a_ P w)).is h ks a:=by
 obtain⟨_,its,r,o,h1,h2,n,h3⟩:=(show br P w H h a (.tup (ks.map kV)) from ok a _ e)
 exact⟨o,its.toArray,n,h1,h2,h3,by simpa using tO r⟩
theorem pQ{kvs:List (List Key×V)}(ok:HOk P w H h)(e:Rd H a (.dT kvs)):kvs.length<=sizeLine/\(a == sysModules)=false /\
  ∃xs,KT H kvs xs/\h.DictOfH (tupleKind (a_ P w)) a xs:=by
 obtain⟨z,y,xs,r,o,es,ep,h1,h2,h3,h4,h5⟩:=(show br P w H h a (.dT kvs) from Jv ok e)
 refine⟨z,y,xs,r,o,es,ep,h1,h2,h3,h4,fun x hx=>?_,h5⟩;have all:∀{l:List (List Key×V)} {m:List (List Key×Addr×Value)},KT H l m->∀x∈m,(tupleKind (a_ P w)).is h x.1 x.2.1:=by
  intro l m q
  induction q with
  |nil=>intro x hx;exact nomatch hx
  |@cons p q ps qs hq t ih=>
   intro x hx;rcases SH.mp hx with e | hx
   ·subst e;exact m9 ok (by rw[<- hq.1];exact hq.2.1)
   ·exact ih x hx
 exact all r x hx
theorem Ot{kvs:List (List Key×V)}(ok:HOk P w H h)(e:H a=some (.dT kvs)):kvs.length<=sizeLine/\(a == sysModules)=false /\
  ∃xs,KT H kvs xs/\h.DictOfH (tupleKind (a_ P w)) a xs:=pQ ok (.inl e)
end
noncomputable def iG(H:Hp)(a:Addr)(y:V)(r:Option V):Prop:=
 (∃kvs k,Rd H a (.dK kvs)/\y=kV k/\r=fP kvs k)\/∃kvs k b,Rd H a (.dT kvs)/\y=.ref b/\H b=some (.tup (k.map kV))/\r=fP kvs k
noncomputable def CS(H:Hp)(a:Addr)(y v:V)(H':Hp):Prop:=
 (∃kvs k,H a=some (.dK kvs)/\y=kV k/\kvs.length<sizeLine/\H'=upd H a (.dK (putK kvs k v))) \/
 ∃kvs k b,H a=some (.dT kvs)/\y=.ref b/\H b=some (.tup (k.map kV))/\kvs.length<sizeLine/\H'=upd H a (.dT (putK kvs k v))
theorem iG.k{H:Hp}{a:Addr}{kvs:List (Key×V)}{k:Key}(e:H a=some (.dK kvs)):iG H a (kV k) (fP kvs k):=.inl ⟨kvs,k,.inl e,rfl,rfl⟩
theorem CS.k{H:Hp}{a:Addr}{kvs:List (Key×V)}{k:Key}{v:V}(e:H a=some (.dK kvs))(hl:kvs.length<sizeLine):CS H a (kV k) v (upd H a (.dK (putK kvs k v))):=.inl ⟨kvs,k,e,rfl,hl,rfl⟩
section
variable{X:Cx}{pins:List (Addr×Obj)}{σ:St}{H:Hp}{s:Shared}{a:Addr}{y v:V}{u r:Value}{o:Option V}{A:Around}{E:Value->Shared->Prop}
theorem Inv.big(I:Inv X pins σ H s):sysModules<s.heap.objs.size:=by have h:mainGlobals<s.heap.objs.size:=(I.mod.glob.keeps I.bk).lt;exact Nat.lt_trans (by decide) h
theorem Bs{Q:Value->Shared->Prop}(hu:A.units+1<cLine)(I:Inv X pins σ H s)(g:iG H a y (some v))(ry:RelV y u)(h:∀w' s',Inv X pins σ H s'->RelV v w'->Q w' s') :
  wpAny (model X.prog X.w) A (getItem (.ref a) u) Q E s:=by
 rcases g with⟨kvs,k,e,ey,l⟩ | ⟨kvs,k,b,e,ey,eb,l⟩
 ·subst ey;obtain⟨z,hd,vs,rel,dd⟩:=nS I.hok e;obtain⟨w',hw,rw'⟩:=lQ.some_of (v:=v) (o:=valueAt vs k) (by rw[l];exact rel.val k);exact wpAny_getItem_of (lV ry) dd.mapOf hw (h w' _ (I.tok _) rw')
 ·subst ey;cases (show u=S4 b from ry);obtain⟨z,hd,xs,rel,dd⟩:=pQ I.hok e;obtain⟨w',hw,rw'⟩:=lQ.some_of (v:=v) (o:=(atKey xs k).map (·.2)) (by rw[l];exact rel.val k);obtain⟨p,hp,hp2⟩:=Option.map_eq_some_iff.mp hw;refine wpAny_getItem_heap (tupleKind_room_in1 hu) (m9 I.hok eb) dd hp ?_;rw[hp2];exact h w' _ (I.tok _) rw'
theorem Ri{Q:Value->Shared->Prop}(hu:A.units+1<cLine)(I:Inv X pins σ H s)(g:iG H a y o)(ry:RelV y u)(h:∀s',Inv X pins σ H s'->Q (.bool o.isSome) s') :
  wpAny (model X.prog X.w) A (compareOp .In u (.ref a)) Q E s:=by
 rcases g with⟨kvs,k,e,ey,l⟩ | ⟨kvs,k,b,e,ey,eb,l⟩
 ·subst ey;obtain⟨z,hd,vs,rel,dd⟩:=nS I.hok e;refine wpAny_in_of (lV ry) hd dd.mapOf ?_;rw[<- (rel.val k).gK,<- l];exact h _ (I.tok _)
 ·subst ey;cases (show u=S4 b from ry);obtain⟨z,hd,xs,rel,dd⟩:=pQ I.hok e;refine wpAny_in_heap (tupleKind_room_in1 hu) (m9 I.hok eb) hd dd ?_;have q:=(rel.val k).gK;rw[UD]at q;rw[<- q,<- l];exact h _ (I.tok _)
theorem GV{Q:Value->Shared->Prop}(hu:A.units+1<cLine)(I:Inv X pins σ H s)(g:iG H a y o)(ry:RelV y u)(h:∀s',Inv X pins σ H s'->Q (.bool (!o.isSome)) s') :
  wpAny (model X.prog X.w) A (compareOp .NotIn u (.ref a)) Q E s:=by
 rcases g with⟨kvs,k,e,ey,l⟩ | ⟨kvs,k,b,e,ey,eb,l⟩
 ·subst ey;obtain⟨z,hd,vs,rel,dd⟩:=nS I.hok e;refine wpAny_notIn_of (lV ry) hd dd.mapOf ?_;rw[<- (rel.val k).gK,<- l];exact h _ (I.tok _)
 ·subst ey;cases (show u=S4 b from ry);obtain⟨z,hd,xs,rel,dd⟩:=pQ I.hok e;refine wpAny_notIn_heap (tupleKind_room_in1 hu) (m9 I.hok eb) hd dd ?_;have q:=(rel.val k).gK;rw[UD]at q;rw[<- q,<- l];exact h _ (I.tok _)
theorem lW{h':Heap}{t':Nat}{ob:HO}(I:Inv X pins σ H s)(mu:Mut (H a))(hs:UP a s.heap h')(he:∃q,h'.get? a=some q)(new:br X.prog X.w (upd H a ob) h' a ob) :
  Inv X pins σ (upd H a ob) { s with heap:=h',toks:=t' }:=
 I.write (x:=a) (e:=a) mu (.inl rfl) (fun b q hb z=>(hs.2 b hb).trans z) he new
theorem pR{P:Program}{w:World}{H':Hp}{h':Heap}{kvs:List (Key×V)}{vs:List (Key×Value)}(z:kvs.length<=sizeLine)(hd:(a == sysModules)=false)(rel:KV kvs vs)(dd:h'.DictOf (a_ P w) a vs) :
  br P w H' h' a (.dK kvs):=⟨z,hd,vs,rel,dd⟩
theorem Bt{H':Hp}{Q:Unit->Shared->Prop}(hu:A.units+1<cLine)(I:Inv X pins σ H s)(g:CS H a y v H')(ry:RelV y u)(rv:RelV v r)(h:∀s',Inv X pins σ H' s'->Q () s') :
  wpAny (model X.prog X.w) A (setItem (.ref a) u r) Q E s:=by
 rcases g with⟨kvs,k,e,ey,l,eH⟩ | ⟨kvs,k,b,e,ey,eb,l,eH⟩
 ·subst ey eH;obtain⟨z,hd,vs,rel,dd⟩:=pP I.hok e;have hz:vs.length<=sizeLine:=by rw[<- rel.length];exact z
  have hl:(putK kvs k v).length<=sizeLine:=by have:=gk kvs k v;omega
  refine wpAny_setItem_pairs (hsz:=hz) (lV ry) dd fun h' dd' hs=>h _ ?_;have he:∃q,h'.get? a=some q:=let ⟨q,_,_,hq,_⟩:=dd';⟨q,hq⟩
  exact lW I (by rw[e];exact T8) hs he (pR hl hd (rel.put k rv) dd')
 ·subst ey eH;cases (show u=S4 b from ry);obtain⟨z,hd,xs,rel,dd⟩:=Ot I.hok e;have hz:xs.length<=sizeLine:=by rw[<- Paired.length rel];exact z
  have hl:(putK kvs k v).length<=sizeLine:=by have:=gk kvs k v;omega
  refine wpAny_setItem_heap (hsz:=hz) (tupleKind_room_in1 hu) (m9 I.hok eb) dd fun h' dd' hs=>h _ ?_;obtain⟨q,es,ep,hq,h2,h3,h4,_,h5⟩:=dd';refine lW I (by rw[e];exact T8) hs ⟨q,hq⟩ ⟨hl,hd,_,(rel.put k eb rv).keeps fun c ys ec=>?_,q,es,ep,hq,h2,h3,h4,h5⟩;rw[aj (N8 ec e (fun z=>nomatch z))];exact ec
end
section
variable{X:Cx}{pins:List (Addr×Obj)}{σ:St}{H:Hp}{s:Shared}{a:Addr}{kvs:List (Key×V)}{k:Key}{u:Value}{A:Around}{E:Value->Shared->Prop}
theorem Ou{v:V}{more:List Value}{Q:Value->Shared->Prop}(I:Inv X pins σ H s)(e:H a=some (.dK kvs))(ry:RelV (kV k) u)(l:fP kvs k=some v)(hm:more=[]\/∃x,more=[x])
  (h:∀w' s',Inv X pins σ (upd H a (.dK (nR kvs k))) s'->RelV v w'->Q w' s'):wpAny (model X.prog X.w) A (call (.builtin "dict.pop") (.ref a::u::more)) Q E s:=by
 obtain⟨z,hd,vs,rel,dd⟩:=pP I.hok e;obtain⟨w',hw,rw'⟩:=lQ.some_of (v:=v) (o:=valueAt vs k) (by rw[<- l];exact rel.val k);have hp:(keyPart u).isSome=true:=by
  cases k with
  |inl i=>obtain⟨t,q⟩:=(show ∃t,u=Value.int i t from ry);subst q;rfl
  |inr x=>obtain⟨t,q⟩:=(show ∃t,u=Vu x t from ry);subst q;rfl
 have ha:argsOk "dict.pop" ⟨.ref a::u::more,[]⟩:=by
  rcases hm with q | ⟨x,q⟩
  ·subst q;exact PySem.F.args_dict_pop_2 _ _
  ·subst q;exact PySem.F.args_dict_pop_3 _ _ _
 refine call_meetsIn PySem.F.slot_dict_pop dd.typeIs PySem.F.entry_dict_pop ha (meets_dict_pop_there (a_ X.prog X.w) a (lV ry) more hm hp)
  ⟨vs,w',dd,by rw[<- rel.length];exact z,hw,fun h' dd' hs=>h w' _ ?_ rw'⟩
 have he:∃q,h'.get? a=some q:=let ⟨q,_,_,hq,_⟩:=dd';⟨q,hq⟩
 exact lW I (by rw[e];exact T8) hs he (pR (Tn (CQ kvs k) z) hd (rel.drop k) dd')
end
noncomputable def Lw(i:Expr):Prop:=∀ov iv,subscripted i false ov iv=operate [ov,iv] (getItem ov iv)
theorem GW{prog:Program}{w:World}{A:Around}{E:Value->Shared->Prop}{s:Shared}{env:Env}{value slice:Expr}{pos:Pos}{T id:String}{Q:Value->Shared->Prop}
  (hl:typeLookup (.type T) "__getitem__" = pure (some (.builtin id))) (hs:Lw slice)
  (h:wpAny (model prog w) A (eval value env) (fun o s₁=>wpAny (model prog w) A (eval slice env) (fun i s₂=>s₂.TypeIs o T/\wpAny (model prog w) A (getItem o i) Q E s₂) E s₁) E s) :
  wpAny (model prog w) A (eval (.Subscript value slice pos) env) Q E s:=by
 refine Subscript_ (wpAny_mono h (fun o s₁ h₁=>wpAny_mono h₁ (fun i s₂ h₂=>?_) fun _ _ x=>x) fun _ _ x=>x);obtain⟨hT,h₂⟩:=h₂;unfold subscriptTail;refine wpAny_bind ?_;rw[getitemInPython_of_ne hT.not_modules];refine wpAny_bind (wpAny_specialOf hT hl ?_);have fin:wpAny (model prog w) A (subscripted slice false o i) (fun r s₃=>wpAny (model prog w) A (letTemporaryGo value o r >>= fun _=>pure r) Q E s₃) E s₂:=by rw[hs o i];exact wpAny_operating (wpAny_mono h₂ (fun r s₃ h₃=>wpAny_bind (wpAny_letTemporaryGo (wpAny_pure h₃))) fun _ _ x=>x)
 first
  |exact wpAny_pure (wpAny_bind fin)
  |exact wpAny_bind (wpAny_pure (wpAny_bind fin))
  |exact wpAny_bind fin
theorem v5{X:Cx}{pins:List (Addr×Obj)}{σ:St}{H:Hp}{s:Shared}{a:Addr}{y:V}{o:Option V}(I:Inv X pins σ H s)(g:iG H a y o):s.TypeIs (.ref a) "dict" := by
 rcases g with⟨kvs,k,e,_,_⟩ | ⟨kvs,k,b,e,_,_,_⟩
 ·obtain⟨_,_,vs,_,dd⟩:=nS I.hok e;exact dd.typeIs
 ·obtain⟨_,_,xs,_,dd⟩:=pQ I.hok e;exact dd.typeIs
noncomputable def Ov(td ty:TE):TE:=fun σ H Q=>td σ H fun x H1=>ty σ H1 fun y H2=>∃a v,x=.ref a/\iG H2 a y (some v)/\Q v H2
noncomputable def Rj(ty td:TE):TE:=fun σ H Q=>ty σ H fun y H1=>td σ H1 fun x H2=>∃a o,x=.ref a/\iG H2 a y o/\Q (.bl o.isSome) H2
noncomputable def GX(ty td:TE):TE:=fun σ H Q=>ty σ H fun y H1=>td σ H1 fun x H2=>∃a o,x=.ref a/\iG H2 a y o/\Q (.bl (!o.isSome)) H2
noncomputable def Jw(td ty tv:TE):TS:=fun D σ H=>tv σ H fun v H1=>td σ H1 fun x H2=>ty σ H2 fun y H3=>∃a H4,x=.ref a/\CS H3 a y v H4/\D.nx σ H4
section
variable{X:Cx}{o i e value:Expr}{pos pos' tpos:Pos}{td ty tv:TE}
theorem GY(hu:X.A.units+1<cLine)(ho:PE X o td)(hi:PE X i ty)(hs:Lw i):PE X (.Subscript o i pos) (Ov td ty):=by intro pins s σ H Q I h;refine GW PySem.F.slot_dict_getitem.lookup hs (thn (ho pins s σ H _ I h) fun u s1 ⟨x,H1,I1,rx,q1⟩=>thn (hi pins s1 σ H1 _ I1 q1) fun iv s2 ⟨y,H2,I2,ry,a,v,ex,g,q2⟩=>?_);subst ex;obtain rfl:u=S4 a:=rx;exact⟨v5 I2 g,Bs hu I2 g ry fun w' s3 I3 rw'=>⟨v,H2,I3,rw',q2⟩⟩
theorem Lx(hu:X.A.units+1<cLine)(hi:PE X i ty)(ho:PE X o td):PC X .In i o (Rj ty td):=by intro pins s σ H Q I h;refine thn (hi pins s σ H _ I h) fun iv s1 ⟨y,H1,I1,ry,q1⟩=>thn (ho pins s1 σ H1 _ I1 q1) fun u s2 ⟨x,H2,I2,rx,a,ov,ex,g,q2⟩=>?_;subst ex;obtain rfl:u=S4 a:=rx;exact Ri hu I2 g ry fun s3 I3=>⟨.bl ov.isSome,H2,I3,rfl,q2⟩
theorem Bu(hu:X.A.units+1<cLine)(hi:PE X i ty)(ho:PE X o td):PC X .NotIn i o (GX ty td):=by intro pins s σ H Q I h;refine thn (hi pins s σ H _ I h) fun iv s1 ⟨y,H1,I1,ry,q1⟩=>thn (ho pins s1 σ H1 _ I1 q1) fun u s2 ⟨x,H2,I2,rx,a,ov,ex,g,q2⟩=>?_;subst ex;obtain rfl:u=S4 a:=rx;exact GV hu I2 g ry fun s3 I3=>⟨.bl (!ov.isSome),H2,I3,rfl,q2⟩
theorem GZ(hu:X.A.units+1<cLine)(ho:PE X o td)(hi:PE X i ty)(hv:PE X value tv)(hs:swapsWith value (some (.Subscript o i pos')) pos.line X.env=pure false) :
  PS X (.Assign [.Subscript o i pos'] value pos) (Jw td ty tv):=by
 intro pins s σ H D I h;refine wpAny_Assign_Subscript (thn (hv pins s σ H _ I h) fun r s1 ⟨v,H1,I1,rv,q1⟩=>thn (ho pins s1 σ H1 _ I1 q1) fun u s2 ⟨x,H2,I2,rx,q2⟩=>thn (hi pins s2 σ H2 _ I2 q2) fun iv s3 ⟨y,H3,I3,ry,a,H4,ex,g,q3⟩=>?_) hs;subst ex;obtain rfl:u=S4 a:=rx;exact Bt hu I3 g ry rv fun s4 I4=>⟨σ,H4,I4,q3⟩
end
theorem v7{P:Program}{w:World}{H:Hp}(h:Heap)(hb:sysModules<h.objs.size):br P w H (h.push { cls:=.type "dict",data:=.dict #[] }) h.objs.size (.dK []):=
 ⟨Ti _,beq_eq_false_iff_ne.mpr (Ne.symm (S0 hb)),[],.nil,Heap.DictOf.new h⟩
noncomputable def yJ:TE:=fun _ H Q=>∀p,H p=none->Q (.ref p) (upd H p (.dK []))
section
variable{X:Cx}{pos:Pos}
theorem v8:PE X (.Dict [] [] pos) yJ:=fun pins s σ H Q I h=>wpAny_Dict_empty ⟨.ref s.heap.objs.size,_,I.laid (a:=s.heap.objs.size) (o:=.dK []) (t':=s.toks) (fun _ _ q=>PU _ q) (Sz _) (v7 s.heap I.big),rfl,h _ (I.hok.fresh (Sz _))⟩
end
noncomputable def yK:List (TE×TE)->St->Hp->(List (V×V)->Hp->Prop)->Prop
 |[],_,H,Q=>Q [] H
 |(tk,tv)::r,σ,H,Q=>tk σ H fun x H1=>tv σ H1 fun y H2=>yK r σ H2 fun ps H3=>Q ((x,y)::ps) H3
noncomputable abbrev VV:List (V×V)->List (Value×Value)->Prop:=Paired fun p q=>RelV p.1 q.1/\RelV p.2 q.2
noncomputable def PPs(X:Cx)(pos:Pos)(keys:List (Option Expr))(values:List Expr)(trs:List (TE×TE)):Prop:=
 ∀(pins:List (Addr×Obj)) (s:Shared) (σ:St) (H:Hp) (Q:List (V×V)->Hp->Prop),Inv X pins σ H s->yK trs σ H Q ->
  wpAny (model X.prog X.w) X.A (evalPairs (pairTrees keys values X.env pos)) (fun vs s'=>∃ps H',Inv X pins σ H' s'/\VV ps vs/\Q ps H') X.xe s
theorem G0{X:Cx}{pos:Pos}:PPs X pos [] [] []:=fun pins s σ H Q I h=>pairTrees_nil_walk ⟨[],H,I,.nil,h⟩
theorem CT{X:Cx}{pos:Pos}{k v:Expr}{ks:List (Option Expr)}{vs:List Expr}{tk tv:TE}{trs:List (TE×TE)}(hk:PE X k tk)(hv:PE X v tv)(hr:PPs X pos ks vs trs) :
  PPs X pos (some k::ks) (v::vs) ((tk,tv)::trs):=fun pins s σ H Q I h=>
 pairTrees_cons_walk (thn (hk pins s σ H _ I h) fun u s1 ⟨x,H1,I1,rx,q1⟩=>thn (hv pins s1 σ H1 _ I1 q1) fun w2 s2 ⟨y,H2,I2,ry,q2⟩=>thn (hr pins s2 σ H2 _ I2 q2) fun ws s3 ⟨ps,H3,I3,rel,q3⟩=>⟨(x,y)::ps,H3,I3,.cons ⟨rx,ry⟩ rel,q3⟩)
noncomputable def nh(kvs more:List (Key×V)):List (Key×V):=more.foldl (fun acc kv=>putK acc kv.1 kv.2) kvs
theorem KV.merge:∀{more:List (Key×V)} {rs:List (Key×Value)} {kvs:List (Key×V)} {vs:List (Key×Value)},KV more rs->KV kvs vs->KV (nh kvs more) (merged vs rs):=by
 intro more rs kvs vs r;unfold KV at r
 induction r generalizing kvs vs with
 |nil=>intro q;exact q
 |@cons p q ps qs h t ih=>
  intro r0;have e:KV (putK kvs p.1 p.2) (stored vs q.1 q.2):=by have:=r0.put p.1 h.2;rw[<- h.1];exact this
  exact ih e
theorem jO:∀(more kvs:List (Key×V)),(nh kvs more).length<=kvs.length+more.length
 |[],kvs=>by show kvs.length<=kvs.length+0;omega
 |p::r,kvs=>by have h1:=jO r (putK kvs p.1 p.2);have h2:=gk kvs p.1 p.2;show (nh (putK kvs p.1 p.2) r).length<=_;rw[Tt];omega
theorem pS{P:Program}{w:World}:∀{kvs:List (Key×V)} {ws:List (Value×Value)},VV (kvs.map fun kv=>(kV kv.1,kv.2)) ws->∃rs,Carries (a_ P w) ws rs/\KV kvs rs
 |[],_,r=>by rw[U5]at r;cases r;exact⟨[],T8,.nil⟩
 |p::kvs,_,r=>by
  rw[Dk]at r;cases r with
  |@cons a b as bs h t=>obtain⟨rs,c,q⟩:=pS (P:=P) (w:=w) t;obtain⟨b1,b2⟩:=b;exact⟨(p.1,b2)::rs,⟨lV h.1,rfl,c⟩,.cons ⟨rfl,h.2⟩ q⟩
noncomputable def Jx(trs:List (TE×TE)):TE:=fun σ H Q=>∀p,H p=none->yK trs σ (upd H p (.dK [])) fun ps H2=>H2 p=some (.dK [])/\∃kvs:List (Key×V),ps=kvs.map (fun kv=>(kV kv.1,kv.2))/\kvs.length<=15/\Q (.ref p) (upd H2 p (.dK (nh [] kvs)))
theorem G1{X:Cx}{pos:Pos}{keys:List (Option Expr)}{values:List Expr}{trs:List (TE×TE)}(h:PPs X pos keys values trs)(hall:keys.all (·.isSome)=true)(hl:keys.length=values.length)(h0:keys≠[])
  (h15:keys.length<=15):PE X (.Dict keys values pos) (Jx trs):=by
 intro pins s σ H Q I q;have hn:=I.hok.fresh (Sz s.heap.objs.size);have I1:=I.laid (a:=s.heap.objs.size) (o:=.dK []) (h':=s.heap.push { cls:=.type "dict",data:=.dict #[] }) (t':=s.toks) (fun _ _ q=>PU _ q) (Sz _) (v7 s.heap I.big);refine wpAny_Dict_walk (knd:=a_ X.prog X.w) hall hl h0 h15 (thn (h pins _ σ _ _ I1 (q _ hn)) fun ws s2 ⟨ps,H2,I2,rel,e,kvs,ep,lk,q2⟩=>?_);subst ep;obtain⟨rs,c,rk⟩:=pS (P:=X.prog) (w:=X.w) rel;obtain⟨z,hd,vs0,r0,dd⟩:=pP I2.hok e;cases r0;refine⟨rs,c,dd,fun h' dd' hs=>⟨.ref s.heap.objs.size,_,?_,rfl,q2⟩⟩;have hz:(nh [] kvs).length<=sizeLine:=by have h1:=jO kvs [];rw[List.length_nil]at h1;rw[sizeLine_eq];omega
 have he:∃q,h'.get? s.heap.objs.size=some q:=let ⟨q,_,_,hq,_⟩:=dd';⟨q,hq⟩
 exact lW I2 (by rw[e];exact T8) hs he (pR hz hd (rk.merge .nil) dd')
structure M1(X:Cx)(o:Expr)(m:Str)(apos:Pos)(e:Expr)(cpos:Pos):Prop where
 base:attributeBase o m X.env (eval o X.env)=eval o X.env
 few:((backTo cpos (starEach [e] X.env)).all (fun x=>!x.1)&&(backToKw cpos (keywordEach [] X.env)).all (fun x=>x.1.isSome)
  && decide (([e]:List Expr).length+([]:List Keyword).length+(if ([]:List Keyword).isEmpty then 0 else 1)<30))=true
 line:(apos.endLine == cpos.line)=true
 trees:backTo cpos (starEach [e] X.env)=[(false,eval e X.env)]
structure M2(X:Cx)(o:Expr)(m:Str)(apos:Pos)(e f:Expr)(cpos:Pos):Prop where
 base:attributeBase o m X.env (eval o X.env)=eval o X.env
 few:((backTo cpos (starEach [e,f] X.env)).all (fun x=>!x.1)&&(backToKw cpos (keywordEach [] X.env)).all (fun x=>x.1.isSome)
  && decide (([e,f]:List Expr).length+([]:List Keyword).length+(if ([]:List Keyword).isEmpty then 0 else 1)<30))=true
 line:(apos.endLine == cpos.line)=true
 trees:backTo cpos (starEach [e,f] X.env)=[(false,eval e X.env),(false,eval f X.env)]
noncomputable def IsD(H:Hp)(a:Addr):Prop:=(∃kvs,Rd H a (.dK kvs))\/∃kvs,Rd H a (.dT kvs)
theorem pT{X:Cx}{pins:List (Addr×Obj)}{σ:St}{H:Hp}{s:Shared}{a:Addr}(I:Inv X pins σ H s)(d:IsD H a) :
  s.TypeIs (.ref a) "dict" /\ (∀b,S4 a=.ref b->∃ob,s.heap.get? b=some ob/\ob.dict=none)/\(a == sysModules)=false:=by
 rcases d with⟨kvs,e⟩ | ⟨kvs,e⟩
 ·obtain⟨_,hd,vs,_,dd⟩:=nS I.hok e;refine⟨dd.typeIs,fun b q=>?_,hd⟩;cases q;obtain⟨ob,_,_,h1,h2,_⟩:=dd;exact⟨ob,h1,h2.2.1⟩
 ·obtain⟨_,hd,xs,_,dd⟩:=pQ I.hok e;refine⟨dd.typeIs,fun b q=>?_,hd⟩;cases q;obtain⟨ob,_,_,h1,h2,_⟩:=dd;exact⟨ob,h1,h2.2.1⟩
section
variable{X:Cx}{pins:List (Addr×Obj)}{σ:St}{H:Hp}{s:Shared}{a:Addr}{y d:V}{u r:Value}{o:Option V}{A:Around}{E:Value->Shared->Prop}
theorem Ly{Q:Value->Shared->Prop}(hu:A.units+1<cLine)(I:Inv X pins σ H s)(g:iG H a y o)(ry:RelV y u)(h:∀w' s',Inv X pins σ H s'->RelV (o.getD .non) w'->Q w' s') :
  wpAny (model X.prog X.w) A (call (.builtin "dict.get") [.ref a,u]) Q E s:=by
 rcases g with⟨kvs,k,e,ey,l⟩ | ⟨kvs,k,b,e,ey,eb,l⟩
 ·subst ey;obtain⟨z,hd,vs,rel,dd⟩:=nS I.hok e;refine call_meetsIn U1 dd.typeIs PySem.F.entry_dict_get (PySem.F.args_dict_get_2 _ _) (meets_dict_get (a_ X.prog X.w) a (lV ry) hd) ⟨_,dd.mapOf,h _ _ (I.tok _) ?_⟩;rw[l];exact(rel.val k).getD rfl
 ·subst ey;cases (show u=S4 b from ry);obtain⟨z,hd,xs,rel,dd⟩:=pQ I.hok e;refine call_meetsIn U1 dd.typeIs PySem.F.entry_dict_get (PySem.F.args_dict_get_2 _ _) (meetsH_dict_get (tupleKind (a_ X.prog X.w)) a b hd) ⟨tupleKind_room_in1 hu,k,xs,m9 I.hok eb,dd,h _ _ (I.tok _) ?_⟩;rw[l];exact(rel.val k).getD rfl
end
noncomputable def CU(td ty:TE):TE:=fun σ H Q=>td σ H fun x H1=>∃a,x=.ref a/\IsD H1 a/\ty σ H1 fun y H2=>∃o,iG H2 a y o/\Q (o.getD .non) H2
noncomputable def CV(td ty:TE):TE:=fun σ H Q=>td σ H fun x H1=>∃a,x=.ref a/\IsD H1 a/\ty σ H1 fun y H2=>∃kvs k v,H2 a=some (.dK kvs)/\y=kV k/\fP kvs k=some v/\Q v (upd H2 a (.dK (nR kvs k)))
section
variable{X:Cx}{o e f:Expr}{apos cpos:Pos}{td ty tx:TE}
theorem CW(hu:X.A.units+1<cLine)(ho:PE X o td)(he:PE X e ty)(m:M1 X o "get" apos e cpos):PE X (.Call (.Attribute o "get" apos) [e] [] cpos) (CU td ty):=by intro pins s σ H Q I h;refine wpAny_Call_method m.base m.few m.line UB U1 PySem.F.type_dict_get (thn (ho pins s σ H _ I h) fun u s1 ⟨x,H1,I1,rx,a,ex,d,q1⟩=>?_);subst ex;obtain rfl:u=S4 a:=rx;obtain⟨t1,t2,_⟩:=pT I1 d;refine⟨t1,t2,?_⟩;rw[m.trees];refine Up rfl (UH (UC (thn (he pins s1 σ H1 _ I1 q1) fun iv s2 ⟨y,H2,I2,ry,ov,g,q2⟩=>T3 ?_)));exact Ly hu I2 g ry fun w' s3 I3 rw'=>⟨_,H2,I3,rw',q2⟩
theorem CY(ho:PE X o td)(he:PE X e ty)(m:M1 X o "pop" apos e cpos):PE X (.Call (.Attribute o "pop" apos) [e] [] cpos) (CV td ty):=by intro pins s σ H Q I h;refine wpAny_Call_method m.base m.few m.line UB PySem.F.slot_dict_pop PySem.F.type_dict_pop (thn (ho pins s σ H _ I h) fun u s1 ⟨x,H1,I1,rx,a,ex,d,q1⟩=>?_);subst ex;obtain rfl:u=S4 a:=rx;obtain⟨t1,t2,_⟩:=pT I1 d;refine⟨t1,t2,?_⟩;rw[m.trees];refine Up rfl (UH (UC (thn (he pins s1 σ H1 _ I1 q1) fun iv s2 ⟨y,H2,I2,ry,kvs,k,v,ea,ey,l,q2⟩=>T3 ?_)));subst ey;exact Ou I2 ea ry l (.inl rfl) fun w' s3 I3 rw'=>⟨v,_,I3,rw',q2⟩
end
section
variable{X:Cx}{pins:List (Addr×Obj)}{σ:St}{H:Hp}{s:Shared}{a:Addr}{kvs:List (Key×V)}{A:Around}{E:Value->Shared->Prop}
theorem CZ{Q:Value->Shared->Prop}(I:Inv X pins σ H s)(e:Rd H a (.dK kvs))(h:∀p s',H p=none->Inv X pins σ (upd H p (.dK kvs)) s'->Q (.ref p) s'):wpAny (model X.prog X.w) A (call (.type "dict") [.ref a]) Q E s:=by obtain⟨z,hd,vs,rel,dd⟩:=nS I.hok e;refine kt_call_dict hd dd (by rw[<- rel.length];exact z) fun h' dd' hs=>?_;refine h _ _ (I.hok.fresh (Sz _)) (I.laid (a:=s.heap.objs.size) (o:=.dK kvs) (t':=s.toks) (fun b q hq=>?_) (Sz _) (pR z (beq_eq_false_iff_ne.mpr (Ne.symm (S0 I.big))) rel dd'));exact(hs.2 b (S0 (SD hq))).trans (PU _ hq)
end
end L2
namespace Dm
inductive Dat where
 |non
 |bl (b:Bool)
 |int (i:Int)
 |str (s:List Nat)
 |tup (xs:List Dat)
 |lst (xs:List Dat)
 |dct (ks:List Int) (vs:List Dat)
 |exc (C:Nat)
 |fn (a:Nat)
deriving Inhabited
inductive Cell where
 |un
 |sh (d:Dat)
 |ow (d:Dat)
deriving Inhabited
noncomputable abbrev Env:=List Cell
inductive Val where
 |val (d:Dat)
 |slot (i:Nat)
 |new (d:Dat)
inductive RV where
 |val (d:Dat)
 |new (d:Dat)
noncomputable def RV.dat:RV->Dat
 |.val d=>d
 |.new d=>d
noncomputable def RV.cj:RV->Val
 |.val d=>.val d
 |.new d=>.new d
noncomputable def SZ:Nat:=100000
noncomputable def iA:Dat->Bool
 |.tup _=>true
 |.lst _=>true
 |.dct _ _=>true
 |.exc _=>true
 |_=>false
noncomputable def pk(ρ:Env):Val->Option Dat
 |.val d=>some d
 |.new d=>some d
 |.slot i=>match ρ[i]? with
  |some (.ow d)=>some d
  |some (.sh d)=>some d
  |_=>none
noncomputable def tk(ρ:Env):Val->Option (Dat×Env)
 |.val d=>some (d,ρ)
 |.new d=>some (d,ρ)
 |.slot i=>match ρ[i]? with
  |some (.ow d)=>some (d,ρ.set i (.sh d))
  |some (.sh d)=>some (d,ρ)
  |_=>none
noncomputable def pks(ρ:Env):List Val->Option (List Dat)
 |[]=>some []
 |x::r=>match pk ρ x with
  |none=>none
  |some d=>match pks ρ r with
   |none=>none
   |some ds=>some (d::ds)
noncomputable def tks(ρ:Env):List Val->Option (List Dat×Env)
 |[]=>some ([],ρ)
 |x::r=>match tk ρ x with
  |none=>none
  |some (d,ρ1)=>match tks ρ1 r with
   |none=>none
   |some (ds,ρ2)=>some (d::ds,ρ2)
noncomputable abbrev FE:=Env->Option (Val×Env)
noncomputable abbrev FT:=Env->Option (Bool×Env)
noncomputable def eC(d:Dat):FE:=fun ρ=>some (.val d,ρ)
noncomputable def eV(i:Nat):FE:=fun ρ=>match ρ[i]? with
 |some (.sh d)=>some (.val d,ρ)
 |some (.ow _)=>some (.slot i,ρ)
 |_=>none
noncomputable def e1(g:Dat->Option RV)(a:FE):FE:=fun ρ=>match a ρ with
 |none=>none
 |some (x,ρ1)=>match pk ρ1 x with
  |none=>none
  |some d=>match g d with
   |none=>none
   |some v=>some (v.cj,ρ1)
noncomputable def e2(g:Dat->Dat->Option RV)(a b:FE):FE:=fun ρ=>match a ρ with
 |none=>none
 |some (x,ρ1)=>match b ρ1 with
  |none=>none
  |some (y,ρ2)=>match pk ρ2 x with
   |none=>none
   |some d=>match pk ρ2 y with
    |none=>none
    |some e=>match g d e with
     |none=>none
     |some v=>some (v.cj,ρ2)
noncomputable def eAs:List FE->Env->Option (List Val×Env)
 |[],ρ=>some ([],ρ)
 |a::r,ρ=>match a ρ with
  |none=>none
  |some (x,ρ1)=>match eAs r ρ1 with
   |none=>none
   |some (xs,ρ2)=>some (x::xs,ρ2)
noncomputable def eB(g:List Dat->Option RV)(as:List FE):FE:=fun ρ=>match eAs as ρ with
 |none=>none
 |some (xs,ρ1)=>match pks ρ1 xs with
  |none=>none
  |some ds=>match g ds with
   |none=>none
   |some v=>some (v.cj,ρ1)
noncomputable def b7(as:List FE):FE:=fun ρ=>match eAs as ρ with
 |none=>none
 |some (xs,ρ1)=>match tks ρ1 xs with
  |none=>none
  |some (ds,ρ2)=>if ds.length<=SZ then some (.val (.tup ds),ρ2) else none
noncomputable def bP(as:List FE):FE:=fun ρ=>match eAs as ρ with
 |none=>none
 |some (xs,ρ1)=>match tks ρ1 xs with
  |none=>none
  |some (ds,ρ2)=>if ds.length<=SZ then some (.new (.lst ds),ρ2) else none
noncomputable def eF(f:List Dat->Option RV)(as:List FE):FE:=fun ρ=>match eAs as ρ with
 |none=>none
 |some (xs,ρ1)=>match pks ρ1 xs with
  |none=>none
  |some ds=>match f ds with
   |none=>none
   | some v=>if iA v.dat then (match tks ρ1 xs with
     |none=>none
     |some (_,ρ2)=>some (v.cj,ρ2)) else some (v.cj,ρ1)
noncomputable def eIf(t:FT)(a b:FE):FE:=fun ρ=>match t ρ with
 |none=>none
 |some (true,ρ1)=>a ρ1
 |some (false,ρ1)=>b ρ1
noncomputable def lX(a b:FE):FE:=fun ρ=>match a ρ with
 |some (.val (.bl true),ρ1)=>b ρ1
 |some (.val (.bl false),ρ1)=>some (.val (.bl false),ρ1)
 |_=>none
noncomputable def eOr(a b:FE):FE:=fun ρ=>match a ρ with
 |some (.val (.bl true),ρ1)=>some (.val (.bl true),ρ1)
 |some (.val (.bl false),ρ1)=>b ρ1
 |_=>none
noncomputable def sM(a:FE):FE:=fun ρ=>match a ρ with
 |some (.val (.bl c),ρ1)=>some (.val (.bl (!c)),ρ1)
 |_=>none
noncomputable def tV(a:FE):FT:=fun ρ=>match a ρ with
 |some (.val (.bl c),ρ1)=>some (c,ρ1)
 |_=>none
noncomputable def fh(t:FT):FT:=fun ρ=>match t ρ with
 |some (c,ρ1)=>some (!c,ρ1)
 |none=>none
noncomputable def sF(t u:FT):FT:=fun ρ=>match t ρ with
 |some (true,ρ1)=>u ρ1
 |some (false,ρ1)=>some (false,ρ1)
 |none=>none
noncomputable def tOr(t u:FT):FT:=fun ρ=>match t ρ with
 |some (true,ρ1)=>some (true,ρ1)
 |some (false,ρ1)=>u ρ1
 |none=>none
noncomputable def truth:Dat->Option Bool
 |.non=>some false
 |.bl b=>some b
 |.int i=>some (i != 0)
 |.tup xs=>some (!xs.isEmpty)
 |.lst xs=>some (!xs.isEmpty)
 |_=>none
noncomputable def tTr(a:FE):FT:=fun ρ=>match a ρ with
 |none=>none
 |some (x,ρ1)=>match pk ρ1 x with
  |none=>none
  |some d=>match truth d with
   |none=>none
   |some c=>some (c,ρ1)
noncomputable def gm:FT:=fun ρ=>some (true,ρ)
noncomputable abbrev FI:=Env->Option (List Dat×Env)
noncomputable def iL(a:FE):FI:=fun ρ=>match a ρ with
 |none=>none
 |some (x,ρ1)=>match tk ρ1 x with
  |some (.lst ds,ρ2)=>some (ds,ρ2)
  |_=>none
noncomputable def iT(a:FE):FI:=fun ρ=>match a ρ with
 |none=>none
 |some (x,ρ1)=>match tk ρ1 x with
  |some (.tup ds,ρ2)=>some (ds,ρ2)
  |_=>none
noncomputable def iS(a:FE):FI:=fun ρ=>match a ρ with
 |none=>none
 |some (x,ρ1)=>match tk ρ1 x with
  |some (.lst ds,ρ2)=>some (ds,ρ2)
  |some (.tup ds,ρ2)=>some (ds,ρ2)
  |_=>none
noncomputable def ups(lo:Int)(n:Nat):List Dat:=(SR n).map fun i=>Dat.int (lo+(i:Nat))
noncomputable def downs(hi:Int)(n:Nat):List Dat:=(SR n).map fun i=>Dat.int (hi-(i:Nat))
noncomputable def BIG:Int:=1000000000
noncomputable def iR1(a:FE):FI:=fun ρ=>match a ρ with
 |some (.val (.int j),ρ1)=>if j<=BIG/\-BIG<=j then some (ups 0 j.toNat,ρ1) else none
 |_=>none
noncomputable def iR2(a b:FE):FI:=fun ρ=>match a ρ with
 | some (.val (.int i),ρ1)=>(match b ρ1 with
  |some (.val (.int j),ρ2)=>if j<=BIG/\-BIG<=j/\i<=BIG/\-BIG<=i then some (ups i (j-i).toNat,ρ2) else none
  |_=>none)
 |_=>none
noncomputable abbrev FB:=Dat->Env->Option Env
noncomputable def bN(i:Nat):FB:=fun d ρ=>if i=0 then none else some (ρ.set i (.sh d))
noncomputable def sets:List Nat->List Dat->Env->Option Env
 |[],[],ρ=>some ρ
 |i::is,d::ds,ρ=>if i=0 then none else sets is ds (ρ.set i (.sh d))
 |_,_,_=>none
noncomputable def bT(is:List Nat):FB:=fun d ρ=>match d with
 |.tup ds=>sets is ds ρ
 |_=>none
noncomputable def fq(bd:FB)(t:FT)(el:FE):List Dat->Env->List Dat->Option (List Dat×Env)
 |[],ρ,acc=>some (acc,ρ)
 |d::r,ρ,acc=>match bd d ρ with
  |none=>none
  |some ρ1=>match t ρ1 with
   |none=>none
   |some (false,ρ2)=>fq bd t el r ρ2 acc
   |some (true,ρ2)=>match el ρ2 with
    |none=>none
    |some (x,ρ3)=>match tk ρ3 x with
     |none=>none
     |some (y,ρ4)=>fq bd t el r ρ4 (acc++[y])
noncomputable def dH(it:FI)(own:Nat)(bd:FB)(t:FT)(el:FE):FE:=fun ρ=>match it ρ with
 |none=>none
 | some (ds,ρ1)=>if ds.length≤SZ then (match fq bd t el ds (ρ1++Dp own .un) [] with
  |none=>none
  |some (ys,ρ2)=>some (.new (.lst ys),ρ2.take ρ1.length)) else none
inductive Out where
 |nx (ρ:Env)
 |ret (r:RV) (ρ:Env)
 |bk (ρ:Env)
 |ct (ρ:Env)
noncomputable abbrev FS:=Env->Option Out
noncomputable def sNx:FS:=fun ρ=>some (.nx ρ)
noncomputable def aD(s u:FS):FS:=fun ρ=>match s ρ with
 |some (.nx ρ1)=>u ρ1
 |o=>o
noncomputable def sA(i:Nat)(e:FE):FS:=fun ρ=>if i=0 then none else match e ρ with
 |none=>none
 |some (.new d,ρ1)=>some (.nx (ρ1.set i (.ow d)))
 |some (x,ρ1)=>match tk ρ1 x with
  |none=>none
  |some (d,ρ2)=>some (.nx (ρ2.set i (.sh d)))
noncomputable def sU(is:List Nat)(e:FE):FS:=fun ρ=>match e ρ with
 |none=>none
 |some (x,ρ1)=>match tk ρ1 x with
  | some (.tup ds,ρ2)=>(match sets is ds ρ2 with
   |none=>none
   |some ρ3=>some (.nx ρ3))
  |_=>none
noncomputable def sE(e:FE):FS:=fun ρ=>match e ρ with
 |none=>none
 |some (_,ρ1)=>some (.nx ρ1)
noncomputable def sR(e:FE):FS:=fun ρ=>match e ρ with
 |none=>none
 |some (.new d,ρ1)=>some (.ret (.new d) ρ1)
 |some (.val d,ρ1)=>some (.ret (.val d) ρ1)
 |some (.slot i,ρ1)=>match ρ1[i]? with
  |some (.ow d)=>some (.ret (.new d) (ρ1.set i .un))
  |some (.sh d)=>some (.ret (.val d) ρ1)
  |_=>none
noncomputable def sIf(t:FT)(a b:FS):FS:=fun ρ=>match t ρ with
 |none=>none
 |some (true,ρ1)=>a ρ1
 |some (false,ρ1)=>b ρ1
noncomputable def uM(i:Nat)(e:FE):FS:=fun ρ=>match ρ[i]? with
 | some (.ow (.lst _))=>(match e ρ with
  |none=>none
  |some (x,ρ1)=>match tk ρ1 x with
   |none=>none
   |some (d,ρ2)=>match ρ2[i]? with
    |some (.ow (.lst ds))=>if ds.length<SZ then some (.nx (ρ2.set i (.ow (.lst (ds++[d]))))) else none
    |_=>none)
 |_=>none
noncomputable def ixN(n:Nat)(i:Int):Option Nat:=
 if 0<=i then (if i<n then some i.toNat else none) else if -(n:Int)<=i then some (i+n).toNat else none
noncomputable def yL(i:Nat)(j e:FE):FS:=fun ρ=>match e ρ with
 |none=>none
 |some (x,ρ1)=>match tk ρ1 x with
  |none=>none
  |some (d,ρ2)=>match ρ2[i]? with
   | some (.ow _)=>(match j ρ2 with
    | some (.val (.int k),ρ3)=>(match ρ3[i]? with
     | some (.ow (.lst ds))=>(match ixN ds.length k with
      |none=>none
      |some m=>some (.nx (ρ3.set i (.ow (.lst (ds.set m d))))))
     |_=>none)
    |_=>none)
   |_=>none
noncomputable def ni(bd:FB)(body:FS):List Dat->FS
 |[],ρ=>some (.nx ρ)
 |d::r,ρ=>match bd d ρ with
  |none=>none
  |some ρ1=>match body ρ1 with
   |some (.nx ρ2)=>ni bd body r ρ2
   |some (.ct ρ2)=>ni bd body r ρ2
   |some (.bk ρ2)=>some (.nx ρ2)
   |some (.ret v ρ2)=>some (.ret v ρ2)
   |none=>none
noncomputable def jL(it:FI)(bd:FB)(body:FS):FS:=fun ρ=>match it ρ with
 |none=>none
 |some (ds,ρ1)=>ni bd body ds ρ1
noncomputable def whD(t:FT)(body:FS):Nat->FS
 |0,_=>none
 |n+1,ρ=>match t ρ with
  |none=>none
  |some (false,ρ1)=>some (.nx ρ1)
  |some (true,ρ1)=>match body ρ1 with
   |some (.nx ρ2)=>whD t body n ρ2
   |some (.ct ρ2)=>whD t body n ρ2
   |some (.bk ρ2)=>some (.nx ρ2)
   |some (.ret v ρ2)=>some (.ret v ρ2)
   |none=>none
noncomputable def fn(n m:Nat)(body:FS)(ds:List Dat):Option RV:=if ds.length=n then (match body (ds.map Cell.sh++Dp m .un) with
 |some (.ret r _)=>some r
 |some (.nx _)=>some (.val .non)
 |_=>none) else none
noncomputable def b2i(b:Bool):Int:=if b then 1 else 0
mutual
noncomputable def eqD:Dat->Dat->Bool
 |.non,.non=>true
 |.bl a,.bl b=>a == b
 |.bl a,.int j=>b2i a == j
 |.int i,.bl b=>i == b2i b
 |.int i,.int j=>i == j
 |.str a,.str b=>a == b
 |.tup xs,.tup ys=>pU xs ys
 |.lst xs,.lst ys=>pU xs ys
 |_,_=>false
noncomputable def pU:List Dat->List Dat->Bool
 |[],[]=>true
 |x::xs,y::ys=>eqD x y&&pU xs ys
 |_,_=>false
end
noncomputable def okD:Nat->Dat->Bool
 |_,.dct _ _=>false
 |_,.exc _=>false
 |_,.fn _=>false
 |_,.str s=>s.all fun c=>decide (c<128)
 |0,.tup _=>false
 |0,.lst _=>false
 |n+1,.tup xs=>xs.all (okD n)
 |n+1,.lst xs=>xs.all (okD n)
 |_,_=>true
noncomputable abbrev vB(b:Bool):Option RV:=some (.val (.bl b))
noncomputable def sN(p:Dat->Bool):Dat->Option RV
 |.exc _=>none
 |.fn _=>none
 |d=>vB (p d)
noncomputable abbrev vI(i:Int):Option RV:=some (.val (.int i))
noncomputable def gEq(x y:Dat):Option RV:=if okD 8 x&&okD 8 y then vB (eqD x y) else none
noncomputable def gNe(x y:Dat):Option RV:=if okD 8 x&&okD 8 y then vB (!eqD x y) else none
noncomputable def gLt:Dat->Dat->Option RV
 |.int i,.int j=>vB (decide (i<j))
 |_,_=>none
noncomputable def gLe:Dat->Dat->Option RV
 |.int i,.int j=>vB (decide (i<=j))
 |_,_=>none
noncomputable def gGt:Dat->Dat->Option RV
 |.int i,.int j=>vB (decide (j<i))
 |_,_=>none
noncomputable def gGe:Dat->Dat->Option RV
 |.int i,.int j=>vB (decide (j<=i))
 |_,_=>none
noncomputable def B64:Int:=18446744073709551616
noncomputable def dW:Dat->Dat->Option RV
 |.int i,.int j=>vI (i+j)
 |.lst xs,.lst ys=>if xs.length+ys.length<=SZ then some (.new (.lst (xs++ys))) else none
 |_,_=>none
noncomputable def iF:Dat->Dat->Option RV
 |.int i,.int j=>vI (i-j)
 |_,_=>none
noncomputable def j0:Dat->Dat->Option RV
 |.int i,.int j=>if (-B64<i/\i<B64)\/(-B64<j/\j<B64) then vI (i*j) else none
 |.lst xs,.int k=>if k<=BIG/\-BIG<=k/\xs.length*k.toNat<=SZ then some (.new (.lst (Dp k.toNat xs).flatten)) else none
 |_,_=>none
noncomputable def jM:Int:=1606938044258990275541962092341162602522202993782792835301376
noncomputable def yM:Dat->Dat->Option RV
 |.int i,.int j=>if 0<j/\j<jM then vI (i / j) else none
 |_,_=>none
noncomputable def j3:Dat->Dat->Option RV
 |.int i,.int j=>if 0<j then vI (i % j) else none
 |_,_=>none
noncomputable def iR:Dat->Dat->Option RV
 |.int i,.int j=>if 0<=j/\j<=1000000/\i.natAbs<1000000 then vI (i ^ j.toNat) else none
 |_,_=>none
noncomputable def atI(xs:List Dat)(i:Int):Option Dat:=(ixN xs.length i).bind fun j=>xs[j]?
noncomputable def gIx:Dat->Dat->Option RV
 |.lst xs,.int i=>(atI xs i).map .val
 |.tup xs,.int i=>(atI xs i).map .val
 |_,_=>none
noncomputable def inD(x:Dat)(xs:List Dat):Bool:=xs.any fun y=>eqD y x
noncomputable def gIn:Dat->Dat->Option RV
 |x,.lst xs=>if okD 8 x&&xs.all (okD 7) then vB (inD x xs) else none
 |x,.tup xs=>if okD 8 x&&xs.all (okD 7) then vB (inD x xs) else none
 |_,_=>none
noncomputable def nk:Dat->Dat->Option RV
 |x,.lst xs=>if okD 8 x&&xs.all (okD 7) then vB (!inD x xs) else none
 |x,.tup xs=>if okD 8 x&&xs.all (okD 7) then vB (!inD x xs) else none
 |_,_=>none
noncomputable def sIx(n d:Nat):Option Int->Nat
 |none=>d
 |some v=>(if v<0 then max (v+n) 0 else min v n).toNat
noncomputable def cut(xs:List Dat)(lo hi:Option Int):List Dat:=(xs.drop (sIx xs.length 0 lo)).take (sIx xs.length xs.length hi-sIx xs.length 0 lo)
noncomputable def iH:List Dat->Option RV
 |[.lst xs]=>vI xs.length
 |[.tup xs]=>vI xs.length
 |_=>none
noncomputable def pV:List Dat->Option RV
 |[.int i,.int j]=>vI (if j<i then j else i)
 |_=>none
noncomputable def tP:List Dat->Option RV
 |[.int i,.int j]=>vI (if j>i then j else i)
 |_=>none
noncomputable def v9:List Dat->Option RV
 |[.lst xs]=>some (.new (.lst xs))
 |[.tup xs]=>some (.new (.lst xs))
 |_=>none
noncomputable def j4:List Dat->Option RV
 |[.lst xs]=>some (.val (.tup xs))
 |[.tup xs]=>some (.val (.tup xs))
 |_=>none
noncomputable def isI:Dat->Bool
 |.int _=>true
 |.bl _=>true
 |_=>false
noncomputable def isB:Dat->Bool
 |.bl _=>true
 |_=>false
noncomputable def isL:Dat->Bool
 |.lst _=>true
 |_=>false
noncomputable def isT:Dat->Bool
 |.tup _=>true
 |_=>false
noncomputable def bools:List Dat->Option (List Bool)
 |[]=>some []
 |.bl b::r=>(bools r).map fun bs=>b::bs
 |_=>none
noncomputable def yN:List Dat->Option RV
 | [.lst xs]=>(match bools xs with
  |some bs=>vB (bs.all id)
  |none=>none)
 |_=>none
noncomputable def j5(g h:Dat->Dat->Option RV)(a b c:FE):FE:=fun ρ=>match a ρ with
 |none=>none
 |some (x,ρ1)=>match b ρ1 with
  |none=>none
  |some (y,ρ2)=>match pk ρ2 x with
   |none=>none
   |some d=>match pk ρ2 y with
    |none=>none
    |some e=>match g d e with
     | some (.val (.bl true))=>(match c ρ2 with
      |none=>none
      |some (z,ρ3)=>match pk ρ3 y with
       |none=>none
       |some e'=>match pk ρ3 z with
        |none=>none
        |some f=>match h e' f with
         |none=>none
         |some v=>some (v.cj,ρ3))
     |some (.val (.bl false))=>some (.val (.bl false),ρ2)
     |_=>none
noncomputable def part:Option FE->Env->Option (Option Int×Env)
 |none,ρ=>some (none,ρ)
 |some f,ρ=>match f ρ with
  |some (.val (.int i),ρ1)=>some (some i,ρ1)
  |_=>none
noncomputable def eSl(a:FE)(lo hi:Option FE):FE:=fun ρ=>match a ρ with
 |none=>none
 |some (x,ρ1)=>match part lo ρ1 with
  |none=>none
  |some (l,ρ2)=>match part hi ρ2 with
   |none=>none
   |some (h,ρ3)=>match pk ρ3 x with
    |some (.lst xs)=>some (.new (.lst (cut xs l h)),ρ3)
    |_=>none
noncomputable def C0:List Dat->Option RV
 |[.int i]=>vI i
 |[.bl b]=>vI (b2i b)
 |_=>none
end Dm
namespace Br
open PySem L2
mutual
inductive Rep(H:Hp):V->Dm.Dat->Prop
 |non:Rep H V.non Dm.Dat.non
 |bl (b:Bool):Rep H (V.bl b) (Dm.Dat.bl b)
 |int (i:Int):Rep H (V.int i) (Dm.Dat.int i)
 |str (s:List Nat):Rep H (V.str ⟨s.toArray⟩) (Dm.Dat.str s)
 |tup {a:Addr} {xs:List V} {ds:List Dm.Dat}:H a=some (.tup xs)->aH H xs ds->Rep H (V.ref a) (Dm.Dat.tup ds)
 |lst {a:Addr} {xs:List V} {ds:List Dm.Dat}:Rd H a (.lst xs)->aH H xs ds->Rep H (V.ref a) (Dm.Dat.lst ds)
 |dct {a:Addr} {kvs:List (Key×V)} {ks:List Int} {ds:List Dm.Dat}:H a=some (.dK kvs)->kvs.map (·.1)=ks.map SX->aH H (kvs.map (·.2)) ds->Rep H (V.ref a) (Dm.Dat.dct ks ds)
 |exc {a:Addr} {C:Nat}:H a=some (.ext fun h=>∃o,h.get? a=some o/\o.cls=.ref C)->Rep H (V.ref a) (Dm.Dat.exc C)
 |fn (a:Addr):Rep H (V.ref a) (Dm.Dat.fn a)
inductive aH(H:Hp):List V->List Dm.Dat->Prop
 |nil:aH H [] []
 |cons {v:V} {d:Dm.Dat} {vs:List V} {ds:List Dm.Dat}:Rep H v d->aH H vs ds->aH H (v::vs) (d::ds)
end
theorem av.rd{H H':Hp}(s:av H H'){a:Addr}{u:HO}(h:Rd H a u):Rd H' a u:=by
 rcases h with h | ⟨o,h⟩
 ·exact .inl (s _ _ h)
 ·exact .inr ⟨o,s _ _ h⟩
mutual
theorem Rep.mono{H H':Hp}(s:av H H'):∀{v:V} {d:Dm.Dat},Rep H v d->Rep H' v d
 |_,_,.non=>.non
 |_,_,.bl b=>.bl b
 |_,_,.int i=>.int i
 |_,_,.str x=>.str x
 |_,_,.tup h r=>.tup (s _ _ h) (aH.mono s r)
 |_,_,.lst h r=>.lst (av.rd s h) (aH.mono s r)
 |_,_,.dct h e r=>.dct (s _ _ h) e (aH.mono s r)
 |_,_,.exc h=>.exc (s _ _ h)
 |_,_,.fn a=>.fn a
theorem aH.mono{H H':Hp}(s:av H H'):∀{vs:List V} {ds:List Dm.Dat},aH H vs ds->aH H' vs ds
 |_,_,.nil=>.nil
 |_,_,.cons h r=>.cons (Rep.mono s h) (aH.mono s r)
end
theorem aH.length{H:Hp}:∀{vs:List V} {ds:List Dm.Dat},aH H vs ds->vs.length=ds.length
 |_,_,.nil=>rfl
 |_,_,.cons _ r=>by simp[aH.length r]
theorem aH.get{H:Hp}:∀{vs:List V} {ds:List Dm.Dat} {i:Nat} {d:Dm.Dat},aH H vs ds->ds[i]?=some d->∃v,vs[i]?=some v/\Rep H v d
 |_,_,_,_,.nil,e=>by simp at e
 |_,_,0,_,.cons h _,e=>by simp at e;subst e;exact⟨_,rfl,h⟩
 |_,_,i+1,_,.cons _ r,e=>by obtain⟨v,h1,h2⟩:=aH.get (i:=i) r (by simpa using e);exact⟨v,by simpa using h1,h2⟩
theorem aH.append{H:Hp}:∀{vs ws:List V} {ds es:List Dm.Dat},aH H vs ds->aH H ws es->aH H (vs++ws) (ds++es)
 |_,_,_,_,.nil,s=>s
 |_,_,_,_,.cons h r,s=>.cons h (aH.append r s)
theorem aH.take{H:Hp}:∀{vs:List V} {ds:List Dm.Dat} (n:Nat),aH H vs ds->aH H (vs.take n) (ds.take n)
 |_,_,0,_=>by simpa using aH.nil
 |_,_,_+1,.nil=>by simpa using aH.nil
 |_,_,n+1,.cons h r=>by simpa using aH.cons h (aH.take n r)
theorem aH.drop{H:Hp}:∀{vs:List V} {ds:List Dm.Dat} (n:Nat),aH H vs ds->aH H (vs.drop n) (ds.drop n)
 |_,_,0,r=>by simpa using r
 |_,_,_+1,.nil=>by simpa using aH.nil
 |_,_,n+1,.cons _ r=>by simpa using aH.drop n r
theorem aH.set{H:Hp}{v:V}{d:Dm.Dat}(h:Rep H v d):∀{vs:List V} {ds:List Dm.Dat} (i:Nat),aH H vs ds->aH H (vs.set i v) (ds.set i d)
 |_,_,_,.nil=>.nil
 |_,_,0,.cons _ r=>.cons h r
 |_,_,i+1,.cons q r=>.cons q (aH.set h i r)
theorem aH.rep{H:Hp}{vs:List V}{ds:List Dm.Dat}(r:aH H vs ds):∀k:Nat,aH H (Dp k vs).flatten (Dp k ds).flatten
 |0=>by simpa using aH.nil
 |k+1=>by rw[T5,T5,T4,T4];exact aH.append r (aH.rep r k)
noncomputable def Own(H0 H:Hp)(a:Addr):Dm.Dat->Prop
 |.lst ds=>∃xs,H a=some (.lst xs)/\aH H0 xs ds
 |.dct ks ds=>∃kvs:List (Key×V),H a=some (.dK kvs)/\kvs.map (·.1)=ks.map SX/\aH H0 (kvs.map (·.2)) ds
 |_=>False
theorem Own.some{H0 H:Hp}{a:Addr}{d:Dm.Dat}(h:Own H0 H a d):∃o,H a=some o:=by
 cases d with
 |lst ds=>obtain⟨xs,e,_⟩:=h;exact⟨_,e⟩
 |dct ks ds=>obtain⟨xs,e,_⟩:=h;exact⟨_,e⟩
 |_=>exact SQ h
theorem Own.mono{H0 H H0' H':Hp}{a:Addr}{d:Dm.Dat}(h:Own H0 H a d)(s:av H0 H0')(e:H' a=H a):Own H0' H' a d:=by
 cases d with
 |lst ds=>obtain⟨xs,q,r⟩:=h;exact⟨xs,by rw[e];exact q,r.mono s⟩
 |dct ks ds=>obtain⟨xs,q,k,r⟩:=h;exact⟨xs,by rw[e];exact q,k,r.mono s⟩
 |_=>exact SQ h
noncomputable def nq(H0 H:Hp)(v:V)(d:Dm.Dat):Prop:=Rep H0 v d\/∃a,v=V.ref a/\Own H0 H a d
inductive v_(H0 H:Hp):List V->List Dm.Dat->Prop
 |nil:v_ H0 H [] []
 |cons {v:V} {d:Dm.Dat} {vs:List V} {ds:List Dm.Dat}:nq H0 H v d->v_ H0 H vs ds->v_ H0 H (v::vs) (d::ds)
noncomputable def shr(H0 H:Hp)(a:Addr):Hp:=fun b=>if b=a then H a else H0 b
theorem fW{H0 H:Hp}{a:Addr}:shr H0 H a a=H a:=by unfold shr;rw[if_pos rfl]
theorem gU{H0 H:Hp}{a b:Addr}(h:b≠a):shr H0 H a b=H0 b:=by unfold shr;rw[if_neg h]
theorem iU{H0 H:Hp}{a:Addr}(h:H0 a=none):av H0 (shr H0 H a):=fun b o e=>by
 by_cases q:b=a
 ·subst q;rw[h]at e;cases e
 ·rw[gU q];exact e
theorem uN{H0 H:Hp}{a:Addr}(s:av H0 H):av (shr H0 H a) H:=fun b o e=>by
 by_cases q:b=a
 ·subst q;rw[fW]at e;exact e
 ·rw[gU q]at e;exact s _ _ e
theorem Own.rep{H0 H:Hp}{a:Addr}{d:Dm.Dat}(h:Own H0 H a d)(n:H0 a=none):Rep (shr H0 H a) (V.ref a) d:=by
 cases d with
 |lst ds=>obtain⟨xs,q,r⟩:=h;exact .lst (.inl (by rw[fW];exact q)) (r.mono (iU n))
 |dct ks ds=>obtain⟨xs,q,k,r⟩:=h;exact .dct (by rw[fW];exact q) k (r.mono (iU n))
 |_=>exact SQ h
noncomputable def ao(σ:St)(ρ:Dm.Env)(a:Addr):Prop:=∃(i:Nat) (d:Dm.Dat),ρ[i]?=some (Dm.Cell.ow d)/\σ[i]?=some (some (V.ref a))
noncomputable abbrev Def(_:Dm.Env)(_:Nat):Prop:=True
structure az(H0 H:Hp)(σ:St)(ρ:Dm.Env):Prop where
 same:av H0 H
 len:σ.length=ρ.length
 sh:∀(i:Nat) (d:Dm.Dat),ρ[i]?=some (Dm.Cell.sh d)->∃v,σ[i]?=some (some v)/\Rep H0 v d
 ow:∀(i:Nat) (d:Dm.Dat),ρ[i]?=some (Dm.Cell.ow d)->∃a,σ[i]?=some (some (V.ref a))/\H0 a=none/\Own H0 H a d
 dis:∀(i j:Nat) (d e:Dm.Dat) (a:Addr),ρ[i]?=some (Dm.Cell.ow d)->ρ[j]?=some (Dm.Cell.ow e)->σ[i]?=some (some (V.ref a))->σ[j]?=some (some (V.ref a))->i=j
structure Stp(O:Addr->Prop)(H0 H H0' H':Hp):Prop where
 s0:av H0 H0'
 s1:∀a o,H a=some o->¬O a->H' a=some o
 s2:∀a o,H0' a=some o->H a=none\/H0 a=some o\/O a
 s3:∀a o,H a=some o->∃o',H' a=some o'
theorem Stp.refl(O:Addr->Prop)(H0 H:Hp):Stp O H0 H H0 H:=⟨av.refl _,fun _ _ e _=>e,fun _ _ e=>.inr (.inl e),fun _ o e=>⟨o,e⟩⟩
theorem Stp.gone{O:Addr->Prop}{H0 H H0' H':Hp}(t:Stp O H0 H H0' H'){a:Addr}(h:H' a=none):H a=none:=by
 cases q:H a with
 |none=>rfl
 |some o=>obtain⟨o',e⟩:=t.s3 a o q;rw[h]at e;cases e
theorem Stp.trans{O1 O2:Addr->Prop}{H0 H H1 H' H2 H'':Hp}(t:Stp O1 H0 H H1 H')(u:Stp O2 H1 H' H2 H'')(k:∀a,O2 a->O1 a\/H a=none):Stp O1 H0 H H2 H'' where
 s0:=t.s0.trans u.s0
 s1:=fun a o e n=>u.s1 a o (t.s1 a o e n) fun z=>(k a z).elim n fun q=>by rw[q]at e;cases e
 s2:=fun a o e=>by
  rcases u.s2 a o e with q | q | q
  ·exact .inl (t.gone q)
  ·exact t.s2 a o q
  ·rcases k a q with z | z
   ·exact .inr (.inr z)
   ·exact .inl z
 s3:=fun a o e=>by obtain⟨o',e'⟩:=t.s3 a o e;exact u.s3 a o' e'
theorem Stp.wide{O O':Addr->Prop}{H0 H H0' H':Hp}(t:Stp O H0 H H0' H')(k:∀a,O a->O' a):Stp O' H0 H H0' H':=
 ⟨t.s0,fun a o e n=>t.s1 a o e fun z=>n (k a z),fun a o e=>(t.s2 a o e).imp id (Or.imp id (k a)),t.s3⟩
structure aQ(H0 H H0' H':Hp):Prop where
 s0:av H0 H0'
 s1:av H H'
 s2:∀a o,H0' a=some o->H a=none\/H0 a=some o
 s3:av H0' H'
theorem aQ.refl{H0 H:Hp}(s:av H0 H):aQ H0 H H0 H:=⟨av.refl _,av.refl _,fun _ _ e=>.inr e,s⟩
theorem aQ.stp{H0 H H0' H':Hp}(g:aQ H0 H H0' H')(O:Addr->Prop):Stp O H0 H H0' H':=
 ⟨g.s0,fun a o e _=>g.s1 a o e,fun a o e=>(g.s2 a o e).imp id .inl,fun a o e=>⟨o,g.s1 a o e⟩⟩
theorem aQ.Bv{H0 H:Hp}(s:av H0 H){p:Addr}{o:HO}(n:H p=none):aQ H0 H (upd H0 p o) (upd H p o) where
 s0:=fun b u e=>by rw[aj (aO e (s.free n))];exact e
 s1:=fun b u e=>by rw[aj (aO e n)];exact e
 s2:=fun b u e=>by
  by_cases q:b=p
  ·subst q;exact .inl n
  ·rw[aj q]at e;exact .inr e
 s3:=fun b u e=>by
  by_cases q:b=p
  ·subst q;rw[au]at e ⊢;exact e
  ·rw[aj q]at e ⊢;exact s _ _ e
theorem aQ.oZ{H0 H:Hp}(s:av H0 H){p:Addr}{o:HO}(n:H p=none):aQ H0 H H0 (upd H p o) where
 s0:=av.refl _
 s1:=fun b u e=>by rw[aj (aO e n)];exact e
 s2:=fun b u e=>.inr e
 s3:=fun b u e=>by rw[aj (aO (s _ _ e) n)];exact s _ _ e
noncomputable def iI(Hs H0 H:Hp)(σ:St)(ρ:Dm.Env)(v:V):Dm.Val->Prop
 |.val d=>Rep H0 v d
 |.slot i=>σ[i]?=some (some v)/\Def ρ i
 |.new d=>∃a,v=V.ref a/\Hs a=none/\¬ao σ ρ a/\H0 a=none/\Own H0 H a d
structure ESt(σ:St)(ρ:Dm.Env)(H0 H:Hp)(ρ':Dm.Env)(H0' H':Hp):Prop where
 st:az H0' H' σ ρ'
 stp:Stp (ao σ ρ) H0 H H0' H'
 own:∀a,ao σ ρ' a->ao σ ρ a
 dfn:∀i,Def ρ i->Def ρ' i
theorem ESt.refl{σ:St}{ρ:Dm.Env}{H0 H:Hp}(st:az H0 H σ ρ):ESt σ ρ H0 H ρ H0 H:=⟨st,Stp.refl _ _ _,fun _ z=>z,fun _ z=>z⟩
theorem ESt.trans{σ:St}{ρ ρ1 ρ2:Dm.Env}{H0 H H1 H' H2 H'':Hp}(t:ESt σ ρ H0 H ρ1 H1 H')(u:ESt σ ρ1 H1 H' ρ2 H2 H''):ESt σ ρ H0 H ρ2 H2 H'':=
 ⟨u.st,t.stp.trans u.stp fun a z=>.inl (t.own a z),fun a z=>t.own a (u.own a z),fun i z=>u.dfn i (t.dfn i z)⟩
theorem az.grow{σ:St}{ρ:Dm.Env}{H0 H H0' H':Hp}(st:az H0 H σ ρ)(g:aQ H0 H H0' H'):az H0' H' σ ρ where
 same:=g.s3
 len:=st.len
 sh:=fun i d e=>by obtain⟨v,q,r⟩:=st.sh i d e;exact⟨v,q,r.mono g.s0⟩
 ow:=fun i d e=>by
  obtain⟨a,q,n,w⟩:=st.ow i d e;obtain⟨o,z⟩:=w.some;refine⟨a,q,?_,w.mono g.s0 ((g.s1 a o z).trans z.symm)⟩;cases y:H0' a with
  |none=>rfl
  |some u=>
   rcases g.s2 a u y with k | k
   ·rw[z]at k;cases k
   ·rw[n]at k;cases k
 dis:=st.dis
theorem ESt.grow{σ:St}{ρ:Dm.Env}{H0 H H0' H':Hp}(st:az H0 H σ ρ)(g:aQ H0 H H0' H'):ESt σ ρ H0 H ρ H0' H':=
 ⟨st.grow g,g.stp _,fun _ z=>z,fun _ z=>z⟩
theorem iI.mono{Hs H0 H H0' H':Hp}{σ:St}{ρ ρ':Dm.Env}{v:V}{x:Dm.Val}(r:iI Hs H0 H σ ρ v x)(t:ESt σ ρ H0 H ρ' H0' H'):iI Hs H0' H' σ ρ' v x:=by
 cases x with
 |val d=>exact Rep.mono t.stp.s0 r
 |slot i=>exact⟨r.1,t.dfn i r.2⟩
 |new d=>
  obtain⟨a,e,n,no,n0,w⟩:=r;obtain⟨o,z⟩:=w.some;refine⟨a,e,n,fun y=>no (t.own a y),?_,w.mono t.stp.s0 ((t.stp.s1 a o z no).trans z.symm)⟩;cases y:H0' a with
  |none=>rfl
  |some u=>
   rcases t.stp.s2 a u y with k | k | k
   ·rw[z]at k;cases k
   ·rw[n0]at k;cases k
   ·exact absurd k no
theorem iI.early{Hs Hs' H0 H:Hp}{σ:St}{ρ:Dm.Env}{v:V}{x:Dm.Val}(r:iI Hs H0 H σ ρ v x)(k:∀a,Hs a=none->Hs' a=none):iI Hs' H0 H σ ρ v x:=by
 cases x with
 |val d=>exact r
 |slot i=>exact r
 |new d=>obtain⟨a,e,n,z⟩:=r;exact⟨a,e,k a n,z⟩
theorem iI.look{Hs H0 H:Hp}{σ:St}{ρ:Dm.Env}{v:V}{x:Dm.Val}{d:Dm.Dat}(r:iI Hs H0 H σ ρ v x)(st:az H0 H σ ρ)(e:Dm.pk ρ x=some d):nq H0 H v d:=by
 cases x with
 |val d'=>cases e;exact .inl r
 |new d'=>cases e;obtain⟨a,e,_,_,_,w⟩:=r;exact .inr ⟨a,e,w⟩
 |slot i=>
  obtain⟨q,_⟩:=r;unfold Dm.pk at e;dsimp only at e;split at e
  ·rename_i d' h;cases e;obtain⟨a,z,_,w⟩:=st.ow i d h;rw[q]at z;cases z;exact .inr ⟨a,rfl,w⟩
  ·rename_i d' h;cases e;obtain⟨u,z,w⟩:=st.sh i d h;rw[q]at z;cases z;exact .inl w
  ·cases e
noncomputable def wc(Hs H0 H:Hp)(v:V):Dm.RV->Prop
 |.val d=>Rep H0 v d
 |.new d=>∃a,v=V.ref a/\Hs a=none/\H0 a=none/\Own H0 H a d
theorem wc.toV{H H0' H' H0:Hp}{σ:St}{ρ:Dm.Env}{v:V}{z:Dm.RV}(r:wc H H0' H' v z)(st:az H0 H σ ρ):iI H H0' H' σ ρ v z.cj:=by
 cases z with
 |val d=>exact r
 |new d=>obtain⟨a,e,n,n0,w⟩:=r;refine⟨a,e,n,fun⟨i,d',h1,h2⟩=>?_,n0,w⟩;obtain⟨a',q,_,w'⟩:=st.ow i d' h1;rw[h2]at q;cases q;obtain⟨o,z⟩:=w'.some;rw[n]at z;cases z
noncomputable def tD(f:Dm.FE):TE:=fun σ H Q=>∃H0 ρ x ρ',az H0 H σ ρ/\f ρ=some (x,ρ')/\∀v H0' H',ESt σ ρ H0 H ρ' H0' H'->iI H H0' H' σ ρ' v x->Q v H'
noncomputable def tDT(f:Dm.FT):TT:=fun σ H Q=>∃H0 ρ b ρ',az H0 H σ ρ/\f ρ=some (b,ρ')/\∀H0' H',ESt σ ρ H0 H ρ' H0' H'->Q b H'
inductive cz(Hs H0 H:Hp)(σ:St)(ρ:Dm.Env):List V->List Dm.Val->Prop
 |nil:cz Hs H0 H σ ρ [] []
 |cons {v:V} {x:Dm.Val} {vs:List V} {xs:List Dm.Val}:iI Hs H0 H σ ρ v x->cz Hs H0 H σ ρ vs xs->cz Hs H0 H σ ρ (v::vs) (x::xs)
noncomputable def tDA(fs:List Dm.FE):TA:=fun σ H Q=>∃H0 ρ xs ρ',az H0 H σ ρ/\Dm.eAs fs ρ=some (xs,ρ')/\∀vs H0' H',ESt σ ρ H0 H ρ' H0' H'->cz H H0' H' σ ρ' vs xs->Q vs H'
noncomputable abbrev DE(X:Cx)(e:Expr)(f:Dm.FE):Prop:=PE X e (tD f)
noncomputable abbrev DT(X:Cx)(e:Expr)(f:Dm.FT):Prop:=PT X e (tDT f)
noncomputable abbrev DA(X:Cx)(es:List Expr)(fs:List Dm.FE):Prop:=PA X es (tDA fs)
theorem PE.weak{X:Cx}{e:Expr}{t t':TE}(h:PE X e t)(k:∀σ H Q,t' σ H Q->t σ H Q):PE X e t':=fun pins s σ H Q I q=>h pins s σ H Q I (k σ H Q q)
theorem PT.weak{X:Cx}{e:Expr}{t t':TT}(h:PT X e t)(k:∀σ H Q,t' σ H Q->t σ H Q):PT X e t':=fun pins s σ H Q I q=>h pins s σ H Q I (k σ H Q q)
theorem PA.weak{X:Cx}{es:List Expr}{t t':TA}(h:PA X es t)(k:∀σ H Q,t' σ H Q->t σ H Q):PA X es t':=fun pos pins s σ H Q I q=>h pos pins s σ H Q I (k σ H Q q)
theorem PS.weak{X:Cx}{st:Stmt}{t t':TS}(h:PS X st t)(k:∀D σ H,t' D σ H->t D σ H):PS X st t':=fun pins s σ H D I q=>h pins s σ H D I (k D σ H q)
theorem PSs.weak{X:Cx}{st:List Stmt}{t t':TS}(h:PSs X st t)(k:∀D σ H,t' D σ H->t D σ H):PSs X st t':=fun pins s σ H D I q=>h pins s σ H D I (k D σ H q)
theorem fU{H0 H:Hp}{a:Addr}(s:av H0 H):av H0 (shr H0 H a):=fun b o e=>by
 by_cases q:b=a
 ·subst q;rw[fW];exact s _ _ e
 ·rw[gU q];exact e
theorem Own.Ow{H0 H0c H:Hp}{a:Addr}{d:Dm.Dat}(h:Own H0 H a d)(b:av H0 H0c)(s:av H0c H):Rep (shr H0c H a) (V.ref a) d:=by
 cases d with
 |lst ds=>obtain⟨xs,q,r⟩:=h;exact .lst (.inl (by rw[fW];exact q)) (r.mono (b.trans (fU s)))
 |dct ks ds=>obtain⟨xs,q,k,r⟩:=h;exact .dct (by rw[fW];exact q) k (r.mono (b.trans (fU s)))
 |_=>exact SQ h
theorem iI.rho{Hs H0 H:Hp}{σ:St}{ρ ρ':Dm.Env}{v:V}{x:Dm.Val}(r:iI Hs H0 H σ ρ v x)(o:∀a,ao σ ρ' a->ao σ ρ a)(d:∀i,Def ρ i->Def ρ' i):iI Hs H0 H σ ρ' v x:=by
 cases x with
 |val d=>exact r
 |slot i=>exact⟨r.1,d i r.2⟩
 |new d=>obtain⟨a,e,n,no,z⟩:=r;exact⟨a,e,n,fun y=>no (o a y),z⟩
theorem cz.rho{Hs H0 H:Hp}{σ:St}{ρ ρ':Dm.Env}(o:∀a,ao σ ρ' a->ao σ ρ a)(d:∀i,Def ρ i->Def ρ' i):∀{vs:List V} {xs:List Dm.Val},cz Hs H0 H σ ρ vs xs->cz Hs H0 H σ ρ' vs xs
 |_,_,.nil=>.nil
 |_,_,.cons h r=>.cons (h.rho o d) (cz.rho o d r)
theorem cz.early{Hs Hs' H0 H:Hp}{σ:St}{ρ:Dm.Env}(k:∀a,Hs a=none->Hs' a=none):∀{vs:List V} {xs:List Dm.Val},cz Hs H0 H σ ρ vs xs->cz Hs' H0 H σ ρ vs xs
 |_,_,.nil=>.nil
 |_,_,.cons h r=>.cons (h.early k) (cz.early k r)
theorem aR{ρ:Dm.Env}{i j:Nat}{c d:Dm.Cell}(h:(ρ.set i c)[j]?=some d):(j=i/\d=c)\/(j≠i/\ρ[j]?=some d):=by
 by_cases e:j=i
 ·subst e;by_cases l:j<ρ.length
  ·rw[SS l]at h;exact .inl ⟨rfl,(Option.some.inj h).symm⟩
  ·rw[Tc (by simpa using UI.mp l)]at h;cases h
 ·rw[eg (Ne.symm e)]at h;exact .inr ⟨e,h⟩
theorem yO{H0 H:Hp}{σ:St}{ρ:Dm.Env}{i:Nat}{a:Addr}{d:Dm.Dat}(st:az H0 H σ ρ)(e:ρ[i]?=some (.ow d))(q:σ[i]?=some (some (V.ref a))) :
  az (shr H0 H a) H σ (ρ.set i (.sh d))/\(∀b,ao σ (ρ.set i (.sh d)) b->ao σ ρ b)/\∀j,Def ρ j->Def (ρ.set i (.sh d)) j:=by
 obtain⟨a',q',n,w⟩:=st.ow i d e;rw[q]at q';cases q';have hil:i<ρ.length:=(Sw.mp e).1;refine⟨⟨uN st.same,by rw[S3];exact st.len,fun j d' h=>?_,fun j d' h=>?_,fun j k d1 d2 b h1 h2 h3 h4=>?_⟩,fun b ⟨j,d',h1,h2⟩=>?_,fun j h=>?_⟩
 ·rcases aR h with⟨rfl,z⟩ | ⟨_,h⟩
  ·cases z;exact⟨_,q,w.rep n⟩
  ·obtain⟨v,z,r⟩:=st.sh j d' h;exact⟨v,z,r.mono (iU n)⟩
 ·rcases aR h with⟨_,z⟩ | ⟨hj,h⟩
  ·cases z
  ·obtain⟨b,z,n',w'⟩:=st.ow j d' h;have nb:b≠a:=fun y=>hj (st.dis j i d' d a h e (y▸z) q);exact⟨b,z,by rw[gU nb];exact n',w'.mono (iU n) rfl⟩
 ·rcases aR h1 with⟨_,z⟩ | ⟨_,h1⟩
  ·cases z
  ·rcases aR h2 with⟨_,z⟩ | ⟨_,h2⟩
   ·cases z
   ·exact st.dis j k d1 d2 b h1 h2 h3 h4
 ·rcases aR h1 with⟨_,z⟩ | ⟨_,h1⟩
  ·cases z
  ·exact⟨j,d',h1,h2⟩
 ·trivial
theorem Bw{H0 H:Hp}{σ:St}{ρ:Dm.Env}{a:Addr}(st:az H0 H σ ρ)(no:¬ao σ ρ a):az (shr H0 H a) H σ ρ where
 same:=uN st.same
 len:=st.len
 sh:=fun j d h=>by obtain⟨v,z,r⟩:=st.sh j d h;exact⟨v,z,r.mono (fU st.same)⟩
 ow:=fun j d h=>by obtain⟨b,z,n',w'⟩:=st.ow j d h;have nb:b≠a:=fun y=>no ⟨j,d,h,y▸z⟩;exact⟨b,z,by rw[gU nb];exact n',w'.mono (fU st.same) rfl⟩
 dis:=st.dis
theorem take1{Hs H0s H0 H0c H:Hp}{σ:St}{ρs ρ ρ':Dm.Env}{v:V}{x:Dm.Val}{d:Dm.Dat}(t:ESt σ ρs H0s Hs ρ H0c H)(b:av H0 H0c)(r:iI Hs H0 H σ ρ v x)(e:Dm.tk ρ x=some (d,ρ')) :
  ∃pW,ESt σ ρs H0s Hs ρ' pW H/\av H0c pW/\Rep pW v d/\(∀a,ao σ ρ' a->ao σ ρ a)/\∀i,Def ρ i->Def ρ' i:=by
 cases x with
 |val d'=>cases e;exact⟨H0c,t,av.refl _,Rep.mono b r,fun _ z=>z,fun _ z=>z⟩
 |new d'=>
  cases e;obtain⟨a,e,n,no,n0,w⟩:=r;subst e;have ss:=fU (a:=a) t.st.same;refine⟨shr H0c H a,⟨Bw t.st no,⟨t.stp.s0.trans ss,t.stp.s1,fun c o q=>?_,t.stp.s3⟩,t.own,t.dfn⟩,ss,w.Ow b t.st.same,fun _ z=>z,fun _ z=>z⟩;by_cases y:c=a
  ·subst y;exact .inl n
  ·rw[gU y]at q;exact t.stp.s2 c o q
 |slot i=>
  obtain⟨q,_⟩:=r;unfold Dm.tk at e;dsimp only at e;split at e
  ·rename_i d' h;cases e;obtain⟨a,z,n,w⟩:=t.st.ow i _ h;rw[q]at z;cases z;obtain⟨s1,s2,s3⟩:=yO t.st h q;have ss:=fU (a:=a) t.st.same;refine⟨shr H0c H a,⟨s1,⟨t.stp.s0.trans ss,t.stp.s1,fun c o q'=>?_,t.stp.s3⟩,fun b z=>t.own b (s2 b z),fun j z=>s3 j (t.dfn j z)⟩,ss,w.Ow (av.refl _) t.st.same,s2,s3⟩;by_cases y:c=a
   ·subst y;exact .inr (.inr (t.own c ⟨i,_,h,q⟩))
   ·rw[gU y]at q';exact t.stp.s2 c o q'
  ·rename_i d' h;cases e;obtain⟨u,z,w⟩:=t.st.sh i _ h;rw[q]at z;cases z;exact⟨H0c,t,av.refl _,w,fun _ z=>z,fun _ z=>z⟩
  ·cases e
theorem takes{Hs H0s H0 H:Hp}{σ:St}{ρs:Dm.Env}:∀{xs:List Dm.Val} {vs:List V} {ρ ρ':Dm.Env} {ds:List Dm.Dat} {H0c:Hp},ESt σ ρs H0s Hs ρ H0c H->av H0 H0c->cz Hs H0 H σ ρ vs xs->Dm.tks ρ xs=some (ds,ρ') ->
  ∃pW,ESt σ ρs H0s Hs ρ' pW H/\av H0c pW/\aH pW vs ds
 |[],_,ρ,ρ',ds,H0c,t,b,r,e=>by cases r;cases e;exact⟨H0c,t,av.refl _,.nil⟩
 |x::xs,_,ρ,ρ',ds,H0c,t,b,r,e=>by
  cases r with
  |cons h r=>
   unfold Dm.tks at e;split at e
   ·cases e
   ·rename_i d ρ1 e1;split at e
    ·cases e
    ·rename_i ds' ρ2 e2;cases e;obtain⟨H1,t1,b1,r1,o1,d1⟩:=take1 t b h e1;obtain⟨H2,t2,b2,r2⟩:=takes t1 (b.trans b1) (r.rho o1 d1) e2;exact⟨H2,t2,b1.trans b2,.cons (r1.mono b2) r2⟩
theorem Ox{ρ ρ':Dm.Env}{x:Dm.Val}{d:Dm.Dat}(e:Dm.tk ρ x=some (d,ρ'))(y:Dm.Val):Dm.pk ρ' y=Dm.pk ρ y:=by
 cases x with
 |val d'=>cases e;rfl
 |new d'=>cases e;rfl
 |slot i=>
  unfold Dm.tk at e;dsimp only at e;split at e
  ·rename_i d' h;cases e;cases y with
   |val _=>rfl
   |new _=>rfl
   |slot j=>
    unfold Dm.pk;dsimp only;by_cases z:j=i
    ·subst z;rw[SS (Sw.mp h).1,h]
    ·rw[eg (Ne.symm z)]
  ·cases e;rfl
  ·cases e
theorem C1{ρ:Dm.Env}{x:Dm.Val}{d:Dm.Dat}(e:Dm.pk ρ x=some d):∃ρ',Dm.tk ρ x=some (d,ρ'):=by
 cases x with
 |val d'=>cases e;exact⟨ρ,rfl⟩
 |new d'=>cases e;exact⟨ρ,rfl⟩
 |slot i=>
  unfold Dm.pk at e;dsimp only at e;unfold Dm.tk;dsimp only;split at e
  ·rename_i d' h;cases e;exact⟨_,rfl⟩
  ·rename_i d' h;cases e;exact⟨_,rfl⟩
  ·cases e
theorem j7:∀{xs:List Dm.Val} {ρ:Dm.Env} {ds:List Dm.Dat},Dm.pks ρ xs=some ds->∃ρ',Dm.tks ρ xs=some (ds,ρ')
 |[],ρ,ds,e=>by cases e;exact⟨ρ,rfl⟩
 |x::xs,ρ,ds,e=>by
  unfold Dm.pks at e;split at e
  ·cases e
  ·rename_i d e1;split at e
   ·cases e
   ·rename_i ds' e2;cases e;obtain⟨ρ1,h1⟩:=C1 e1;have key:∀ys:List Dm.Val,Dm.pks ρ1 ys=Dm.pks ρ ys:=fun ys=>by
     induction ys with
     |nil=>rfl
     |cons y ys ih=>unfold Dm.pks;rw[Ox h1 y,ih]
    obtain⟨ρ2,h2⟩:=j7 (xs:=xs) (ρ:=ρ1) (ds:=ds') (by rw[key];exact e2);exact⟨ρ2,by unfold Dm.tks;rw[h1];dsimp only;rw[h2]⟩
theorem looks{Hs H0 H:Hp}{σ:St}{ρ:Dm.Env}(st:az H0 H σ ρ):∀{xs:List Dm.Val} {vs:List V} {ds:List Dm.Dat},cz Hs H0 H σ ρ vs xs->Dm.pks ρ xs=some ds->v_ H0 H vs ds
 |[],_,ds,r,e=>by cases r;cases e;exact .nil
 |x::xs,_,ds,r,e=>by
  cases r with
  |cons h r=>
   unfold Dm.pks at e;split at e
   ·cases e
   ·rename_i d e1;split at e
    ·cases e
    ·rename_i ds' e2;cases e;exact .cons (h.look st e1) (looks st r e2)
noncomputable def OpD(r:R2)(g:Dm.Dat->Dm.Dat->Option Dm.RV):Prop:=∀(H0 H:Hp) (x y:V) (dx dy:Dm.Dat) (z:Dm.RV) (Q:VK),av H0 H->nq H0 H x dx->nq H0 H y dy->g dx dy=some z ->
 (∀v H0' H',aQ H0 H H0' H'->wc H H0' H' v z->Q v H')->r x y H Q
noncomputable def UnD(r:V->Hp->VK->Prop)(g:Dm.Dat->Option Dm.RV):Prop:=∀(H0 H:Hp) (x:V) (dx:Dm.Dat) (z:Dm.RV) (Q:VK),av H0 H->nq H0 H x dx->g dx=some z ->
 (∀v H0' H',aQ H0 H H0' H'->wc H H0' H' v z->Q v H')->r x H Q
noncomputable def CallD(r:List V->Hp->VK->Prop)(g:List Dm.Dat->Option Dm.RV):Prop:=∀(H0 H:Hp) (vs:List V) (ds:List Dm.Dat) (z:Dm.RV) (Q:VK),av H0 H->v_ H0 H vs ds->g ds=some z ->
 (∀v H0' H',aQ H0 H H0' H'->wc H H0' H' v z->Q v H')->r vs H Q
noncomputable def spD(f:List Dm.Dat->Option Dm.RV):Sp:=fun vs H Q _=>∃H0 ds z,av H0 H/\aH H0 vs ds/\f ds=some z/\∀v H0' H',aQ H0 H H0' H'->wc H H0' H' v z->Q v H'
section
variable{σ:St}{H:Hp}{Q:VK}
theorem Oz{i:Nat}(h:tD (Dm.eV i) σ H Q):pL i σ H Q:=by
 obtain⟨H0,ρ,x,ρ',st,e,k⟩:=h;unfold Dm.eV at e;split at e
 ·rename_i d h1;cases e;obtain⟨v,q,r⟩:=st.sh i d h1;exact⟨v,q,k v H0 H (.refl st) r⟩
 ·rename_i d h1;cases e;obtain⟨a,q,_⟩:=st.ow i d h1;exact⟨_,q,k _ H0 H (.refl st) ⟨q,trivial⟩⟩
 ·cases e
theorem lY{d:Dm.Dat}{v:V}(c:∀H0:Hp,Rep H0 v d)(h:tD (Dm.eC d) σ H Q):tC v σ H Q:=by obtain⟨H0,ρ,x,ρ',st,e,k⟩:=h;cases e;exact k v H0 H (.refl st) (c H0)
theorem yP{r:R2}{g:Dm.Dat->Dm.Dat->Option Dm.RV}{fa fb:Dm.FE}(o:OpD r g)(h:tD (Dm.e2 g fa fb) σ H Q):tOp r (tD fa) (tD fb) σ H Q:=by
 obtain⟨H0,ρ,x,ρ',st,e,k⟩:=h;unfold Dm.e2 at e;split at e
 ·cases e
 rename_i x1 ρ1 e1;split at e
 ·cases e
 rename_i y1 ρ2 e2;split at e
 ·cases e
 rename_i dx p1;split at e
 ·cases e
 rename_i dy p2;split at e
 ·cases e
 rename_i z gz;cases e;refine⟨H0,ρ,x1,ρ1,st,e1,fun v H1 Hb t1 r1=>⟨H1,ρ1,y1,_,t1.st,e2,fun u H2 Hc t2 r2=>?_⟩⟩;refine o H2 Hc v u dx dy z Q t2.st.same ((r1.mono t2).look t2.st p1) (r2.look t2.st p2) gz fun w H3 Hd g3 r3=>?_;exact k w H3 Hd (t1.trans (t2.trans (.grow t2.st g3))) ((r3.toV t2.st).early fun a n=>(t1.trans t2).stp.gone n)
theorem Rk{r:V->Hp->VK->Prop}{g:Dm.Dat->Option Dm.RV}{fa:Dm.FE}(o:UnD r g)(h:tD (Dm.e1 g fa) σ H Q):tUn r (tD fa) σ H Q:=by
 obtain⟨H0,ρ,x,ρ',st,e,k⟩:=h;unfold Dm.e1 at e;split at e
 ·cases e
 rename_i x1 ρ1 e1;split at e
 ·cases e
 rename_i dx p1;split at e
 ·cases e
 rename_i z gz;cases e;refine⟨H0,ρ,x1,_,st,e1,fun v H1 Hb t1 r1=>?_⟩;refine o H1 Hb v dx z Q t1.st.same (r1.look t1.st p1) gz fun w H3 Hd g3 r3=>?_;exact k w H3 Hd (t1.trans (.grow t1.st g3)) ((r3.toV t1.st).early fun a n=>t1.stp.gone n)
theorem OA{Q:List V->Hp->Prop}(h:tDA [] σ H Q):uG σ H Q:=by obtain⟨H0,ρ,xs,ρ',st,e,k⟩:=h;cases e;exact k [] H0 H (.refl st) .nil
theorem Lz{f:Dm.FE}{fs:List Dm.FE}{Q:List V->Hp->Prop}(h:tDA (f::fs) σ H Q):lT (tD f) (tDA fs) σ H Q:=by
 obtain⟨H0,ρ,xs,ρ',st,e,k⟩:=h;unfold Dm.eAs at e;split at e
 ·cases e
 rename_i x1 ρ1 e1;split at e
 ·cases e
 rename_i xs1 ρ2 e2;cases e;refine⟨H0,ρ,x1,ρ1,st,e1,fun v H1 Hb t1 r1=>⟨H1,ρ1,xs1,_,t1.st,e2,fun vs H2 Hc t2 r2=>?_⟩⟩;exact k (v::vs) H2 Hc (t1.trans t2) (.cons (r1.mono t2) (r2.early fun a n=>t1.stp.gone n))
theorem G3{r:List V->Hp->VK->Prop}{g:List Dm.Dat->Option Dm.RV}{fs:List Dm.FE}(o:CallD r g)(h:tD (Dm.eB g fs) σ H Q):tCB r (tDA fs) σ H Q:=by
 obtain⟨H0,ρ,x,ρ',st,e,k⟩:=h;unfold Dm.eB at e;split at e
 ·cases e
 rename_i xs ρ1 e1;split at e
 ·cases e
 rename_i ds p1;split at e
 ·cases e
 rename_i z gz;cases e;refine⟨H0,ρ,xs,_,st,e1,fun vs H1 Hb t1 r1=>?_⟩;refine o H1 Hb vs ds z Q t1.st.same (looks t1.st r1 p1) gz fun w H3 Hd g3 r3=>?_;exact k w H3 Hd (t1.trans (.grow t1.st g3)) ((r3.toV t1.st).early fun a n=>t1.stp.gone n)
theorem lZ{n:Nat}(h:n<=Dm.SZ):n<=sizeLine:=Tn h (by decide)
theorem OB{fs:List Dm.FE}(h:tD (Dm.b7 fs) σ H Q):Li (tDA fs) σ H Q:=by
 obtain⟨H0,ρ,x,ρ',st,e,k⟩:=h;unfold Dm.b7 at e;split at e
 ·cases e
 rename_i xs ρ1 e1;split at e
 ·cases e
 rename_i ds ρ2 e2;split at e
 ·rename_i hz;cases e;refine⟨H0,ρ,xs,ρ1,st,e1,fun vs H1 Hb t1 r1=>?_⟩;obtain⟨H2,t2,b2,r2⟩:=takes t1 (av.refl _) r1 e2;refine⟨by rw[r2.length];exact lZ hz,fun p hp=>?_⟩;have g:=aQ.Bv (o:=HO.tup vs) t2.st.same hp;exact k _ _ _ (t2.trans (.grow t2.st g)) (.tup au (r2.mono g.s0))
 ·cases e
theorem OC{fs:List Dm.FE}(h:tD (Dm.bP fs) σ H Q):CI (tDA fs) σ H Q:=by
 obtain⟨H0,ρ,x,ρ',st,e,k⟩:=h;unfold Dm.bP at e;split at e
 ·cases e
 rename_i xs ρ1 e1;split at e
 ·cases e
 rename_i ds ρ2 e2;split at e
 ·rename_i hz;cases e;refine⟨H0,ρ,xs,ρ1,st,e1,fun vs H1 Hb t1 r1=>?_⟩;obtain⟨H2,t2,b2,r2⟩:=takes t1 (av.refl _) r1 e2;refine⟨by rw[r2.length];exact lZ hz,fun p hp=>?_⟩;have g:=aQ.oZ (o:=HO.lst vs) t2.st.same hp;refine k _ _ _ (t2.trans (.grow t2.st g)) ⟨p,rfl,t2.stp.gone hp,fun⟨i,d,h1,h2⟩=>?_,t2.st.same.free hp,vs,au,r2⟩;obtain⟨a,q,_,w⟩:=t2.st.ow i d h1;rw[h2]at q;cases q;obtain⟨o,z⟩:=w.some;rw[hp]at z;cases z
 ·cases e
theorem Rep.plain{H0 H1:Hp}{v:V}{d:Dm.Dat}(r:Rep H0 v d)(n:Dm.iA d=false):Rep H1 v d:=by
 cases r with
 |non=>exact .non
 |bl b=>exact .bl b
 |int i=>exact .int i
 |str s=>exact .str s
 |tup _ _=>cases n
 |lst _ _=>cases n
 |dct _ _ _=>cases n
 |exc _=>cases n
 |fn a=>exact .fn a
theorem Own.box{H0 H:Hp}{a:Addr}{d:Dm.Dat}(w:Own H0 H a d):Dm.iA d=true:=by
 cases d with
 |lst ds=>rfl
 |dct ks ds=>rfl
 |_=>exact SQ w
theorem C2{f:List Dm.Dat->Option Dm.RV}{fs:List Dm.FE}{E:XK}(h:tD (Dm.eF f fs) σ H Q):tF (spD f) [] E (tDA fs) σ H Q:=by
 obtain⟨H0,ρ,x,ρ',st,e,k⟩:=h;unfold Dm.eF at e;split at e
 ·cases e
 rename_i xs ρ1 e1;split at e
 ·cases e
 rename_i ds p1;split at e
 ·cases e
 rename_i z fz;refine⟨H0,ρ,xs,ρ1,st,e1,fun vs H1 Hb t1 r1=>?_⟩;dsimp only;rw[Tz];obtain⟨ρ2,e2⟩:=j7 p1;obtain⟨H2,t2,b2,r2⟩:=takes t1 (av.refl _) r1 e2;split at e
 ·rw[e2]at e;cases e;exact⟨H2,ds,z,t2.st.same,r2,fz,fun w H3 Hd g3 r3=>k w H3 Hd (t2.trans (.grow t2.st g3)) ((r3.toV t2.st).early fun a n=>t2.stp.gone n)⟩
 ·rename_i nb;cases e;refine⟨H2,ds,z,t2.st.same,r2,fz,fun w H3 Hd g3 r3=>?_⟩;have g:aQ H1 Hb H1 Hd:=⟨av.refl _,g3.s1,fun a o q=>.inr q,t1.st.same.trans g3.s1⟩
  refine k w H1 Hd (t1.trans (.grow t1.st g)) ?_;cases z with
  |val d=>exact Rep.plain r3 (by simpa [Dm.RV.dat] using nb)
  |new d=>obtain⟨a,_,_,_,w⟩:=r3;exact absurd w.box (by simpa [Dm.RV.dat] using nb)
theorem Rl{t:Dm.FT}{a b:Dm.FE}(h:tD (Dm.eIf t a b) σ H Q):tIf (tDT t) (tD a) (tD b) σ H Q:=by
 obtain⟨H0,ρ,x,ρ',st,e,k⟩:=h;unfold Dm.eIf at e;split at e
 ·cases e
 ·rename_i ρ1 e1;refine⟨H0,ρ,true,ρ1,st,e1,fun H1 Hb t1=>?_⟩;dsimp only;rw[if_pos rfl];exact⟨H1,ρ1,x,ρ',t1.st,e,fun v H2 Hc t2 r2=>k v H2 Hc (t1.trans t2) (r2.early fun a n=>t1.stp.gone n)⟩
 ·rename_i ρ1 e1;refine⟨H0,ρ,false,ρ1,st,e1,fun H1 Hb t1=>?_⟩;dsimp only;rw[if_neg Tf];exact⟨H1,ρ1,x,ρ',t1.st,e,fun v H2 Hc t2 r2=>k v H2 Hc (t1.trans t2) (r2.early fun a n=>t1.stp.gone n)⟩
theorem Rep.pX{H0:Hp}{v:V}{c:Bool}(r:Rep H0 v (.bl c)):v=.bl c:=by cases r;rfl
theorem Rep.isInt{H0:Hp}{v:V}{c:Int}(r:Rep H0 v (.int c)):v=.int c:=by cases r;rfl
theorem OD{a b:Dm.FE}(h:tD (Dm.lX a b) σ H Q):Jl (tD a) (tD b) σ H Q:=by
 obtain⟨H0,ρ,x,ρ',st,e,k⟩:=h;unfold Dm.lX at e;split at e
 ·rename_i ρ1 e1;refine⟨H0,ρ,_,_,st,e1,fun v H1 Hb t1 r1=>⟨true,Rep.pX r1,?_⟩⟩
  try dsimp only
  rw[if_pos rfl];exact⟨H1,ρ1,x,ρ',t1.st,e,fun v H2 Hc t2 r2=>k v H2 Hc (t1.trans t2) (r2.early fun a n=>t1.stp.gone n)⟩
 ·rename_i ρ1 e1;cases e;refine⟨H0,ρ,_,_,st,e1,fun v H1 Hb t1 r1=>⟨false,Rep.pX r1,?_⟩⟩
  try dsimp only
  rw[if_neg Tf];exact k _ H1 Hb t1 (Rep.bl false)
 ·cases e
theorem Rm{a b:Dm.FE}(h:tD (Dm.eOr a b) σ H Q):Oc (tD a) (tD b) σ H Q:=by
 obtain⟨H0,ρ,x,ρ',st,e,k⟩:=h;unfold Dm.eOr at e;split at e
 ·rename_i ρ1 e1;cases e;refine⟨H0,ρ,_,_,st,e1,fun v H1 Hb t1 r1=>⟨true,Rep.pX r1,?_⟩⟩
  try dsimp only
  rw[if_pos rfl];exact k _ H1 Hb t1 (Rep.bl true)
 ·rename_i ρ1 e1;refine⟨H0,ρ,_,_,st,e1,fun v H1 Hb t1 r1=>⟨false,Rep.pX r1,?_⟩⟩
  try dsimp only
  rw[if_neg Tf];exact⟨H1,ρ1,x,ρ',t1.st,e,fun v H2 Hc t2 r2=>k v H2 Hc (t1.trans t2) (r2.early fun a n=>t1.stp.gone n)⟩
 ·cases e
theorem OE{a:Dm.FE}(h:tD (Dm.sM a) σ H Q):Jm (tD a) σ H Q:=by
 obtain⟨H0,ρ,x,ρ',st,e,k⟩:=h;unfold Dm.sM at e;split at e
 ·rename_i c ρ1 e1;cases e;exact⟨H0,ρ,_,_,st,e1,fun v H1 Hb t1 r1=>⟨c,Rep.pX r1,k _ H1 Hb t1 (Rep.bl (!c))⟩⟩
 ·cases e
variable{Qt:Bool->Hp->Prop}
theorem uO{a:Dm.FE}(h:tDT (Dm.tV a) σ H Qt):Js (tD a) σ H Qt:=by
 obtain⟨H0,ρ,x,ρ',st,e,k⟩:=h;unfold Dm.tV at e;split at e
 ·rename_i c ρ1 e1;cases e;exact⟨H0,ρ,_,_,st,e1,fun v H1 Hb t1 r1=>⟨_,Rep.pX r1,k H1 Hb t1⟩⟩
 ·cases e
theorem LA{t:Dm.FT}(h:tDT (Dm.fh t) σ H Qt):fh (tDT t) σ H Qt:=by
 obtain⟨H0,ρ,x,ρ',st,e,k⟩:=h;unfold Dm.fh at e;split at e
 ·rename_i c ρ1 e1;cases e;exact⟨H0,ρ,_,_,st,e1,fun H1 Hb t1=>k H1 Hb t1⟩
 ·cases e
theorem LB{t u:Dm.FT}(h:tDT (Dm.sF t u) σ H Qt):sF (tDT t) (tDT u) σ H Qt:=by
 obtain⟨H0,ρ,x,ρ',st,e,k⟩:=h;unfold Dm.sF at e;split at e
 ·rename_i ρ1 e1;refine⟨H0,ρ,_,ρ1,st,e1,fun H1 Hb t1=>?_⟩;dsimp only;rw[if_pos rfl];exact⟨H1,ρ1,x,ρ',t1.st,e,fun H2 Hc t2=>k H2 Hc (t1.trans t2)⟩
 ·rename_i ρ1 e1;cases e;refine⟨H0,ρ,_,_,st,e1,fun H1 Hb t1=>?_⟩;dsimp only;rw[if_neg Tf];exact k H1 Hb t1
 ·cases e
theorem OG{t u:Dm.FT}(h:tDT (Dm.tOr t u) σ H Qt):tOr (tDT t) (tDT u) σ H Qt:=by
 obtain⟨H0,ρ,x,ρ',st,e,k⟩:=h;unfold Dm.tOr at e;split at e
 ·rename_i ρ1 e1;cases e;refine⟨H0,ρ,_,_,st,e1,fun H1 Hb t1=>?_⟩;dsimp only;rw[if_pos rfl];exact k H1 Hb t1
 ·rename_i ρ1 e1;refine⟨H0,ρ,_,ρ1,st,e1,fun H1 Hb t1=>?_⟩;dsimp only;rw[if_neg Tf];exact⟨H1,ρ1,x,ρ',t1.st,e,fun H2 Hc t2=>k H2 Hc (t1.trans t2)⟩
 ·cases e
end
structure SSt(σ:St)(ρ:Dm.Env)(H0 H:Hp)(σ':St)(ρ':Dm.Env)(H0' H':Hp):Prop where
 st:az H0' H' σ' ρ'
 stp:Stp (ao σ ρ) H0 H H0' H'
 own:∀a,ao σ' ρ' a->ao σ ρ a\/H a=none
 fx:σ'[0]?=σ[0]?
theorem ESt.sst{σ:St}{ρ ρ':Dm.Env}{H0 H H0' H':Hp}(t:ESt σ ρ H0 H ρ' H0' H'):SSt σ ρ H0 H σ ρ' H0' H':=⟨t.st,t.stp,fun a z=>.inl (t.own a z),rfl⟩
theorem SSt.refl{σ:St}{ρ:Dm.Env}{H0 H:Hp}(st:az H0 H σ ρ):SSt σ ρ H0 H σ ρ H0 H:=(ESt.refl st).sst
theorem SSt.trans{σ σ1 σ2:St}{ρ ρ1 ρ2:Dm.Env}{H0 H H1 H' H2 H'':Hp}(t:SSt σ ρ H0 H σ1 ρ1 H1 H')(u:SSt σ1 ρ1 H1 H' σ2 ρ2 H2 H''):SSt σ ρ H0 H σ2 ρ2 H2 H'':=
 ⟨u.st,t.stp.trans u.stp t.own,fun a z=>(u.own a z).elim (t.own a) fun n=>.inr (t.stp.gone n),u.fx.trans t.fx⟩
noncomputable def C3(σ:St)(ρ:Dm.Env)(H H0' H':Hp)(v:V):Dm.RV->Prop
 |.val d=>Rep H0' v d
 |.new d=>∃a,v=V.ref a/\(H a=none\/ao σ ρ a)/\H0' a=none/\Own H0' H' a d
noncomputable def pY(D:Ends)(σ:St)(ρ:Dm.Env)(H0 H:Hp):Dm.Out->Prop
 |.nx ρ'=>∀σ' H0' H',SSt σ ρ H0 H σ' ρ' H0' H'->D.nx σ' H'
 |.bk ρ'=>∀σ' H0' H',SSt σ ρ H0 H σ' ρ' H0' H'->D.bk σ' H'
 |.ct ρ'=>∀σ' H0' H',SSt σ ρ H0 H σ' ρ' H0' H'->D.ct σ' H'
 |.ret z ρ'=>∀σ' v H0' H',SSt σ ρ H0 H σ' ρ' H0' H'->C3 σ ρ H H0' H' v z->(∀d a,z=.new d->v=.ref a->¬ao σ' ρ' a)->D.rt v H'
noncomputable def tDS(g:Dm.FS):TS:=fun D σ H=>∃H0 ρ o,az H0 H σ ρ/\g ρ=some o/\pY D σ ρ H0 H o
theorem pY.pre{D:Ends}{σ σ1:St}{ρ ρ1:Dm.Env}{H0 H H1 H':Hp}{o:Dm.Out}(t:SSt σ ρ H0 H σ1 ρ1 H1 H')(k:pY D σ ρ H0 H o):pY D σ1 ρ1 H1 H' o:=by
 cases o with
 |nx ρ'=>exact fun σ' H0' H' u=>k σ' H0' H' (t.trans u)
 |bk ρ'=>exact fun σ' H0' H' u=>k σ' H0' H' (t.trans u)
 |ct ρ'=>exact fun σ' H0' H' u=>k σ' H0' H' (t.trans u)
 |ret z ρ'=>
  refine fun σ' v H0' H'' u r no=>k σ' v H0' H'' (t.trans u) ?_ no;cases z with
  |val d=>exact r
  |new d=>
   obtain⟨a,e,n,n0,w⟩:=r;refine⟨a,e,?_,n0,w⟩;rcases n with n | n
   ·exact .inl (t.stp.gone n)
   ·exact(t.own a n).symm
theorem az.mask{H0 H:Hp}{σ:L2.St}{ρ:Dm.Env}(st:az H0 H σ ρ)(i:Nat):az H0 H σ (ρ.set i .un) where
 same:=st.same
 len:=by rw[S3];exact st.len
 sh:=fun j d h=>by
  by_cases q:i=j
  ·subst q;rw[Uu]at h;simp only[if_true]at h;split at h<;>cases h
  ·rw[eg q]at h;exact st.sh j d h
 ow:=fun j d h=>by
  by_cases q:i=j
  ·subst q;rw[Uu]at h;simp only[if_true]at h;split at h<;>cases h
  ·rw[eg q]at h;exact st.ow j d h
 dis:=fun j j' d d' a h1 h2 h3 h4=>by
  by_cases q:i=j
  ·subst q;rw[Uu]at h1;simp only[if_true]at h1;split at h1<;>cases h1
  ·by_cases q':i=j'
   ·subst q';rw[Uu]at h2;simp only[if_true]at h2;split at h2<;>cases h2
   ·rw[eg q]at h1;rw[eg q']at h2;exact st.dis j j' d d' a h1 h2 h3 h4
theorem cP{σ:L2.St}{ρ:Dm.Env}{i:Nat}{a:Addr}(h:ao σ (ρ.set i .un) a):∃(j:Nat) (d:Dm.Dat),j≠i/\ρ[j]?=some (Dm.Cell.ow d)/\σ[j]?=some (some (V.ref a)):=by
 obtain⟨j,d,h1,h2⟩:=h;by_cases q:i=j
 ·subst q;rw[Uu]at h1;simp only[if_true]at h1;split at h1<;>cases h1
 ·rw[eg q]at h1;exact⟨j,d,fun z=>q z.symm,h1,h2⟩
section
variable{D:Ends}{σ:St}{H:Hp}
theorem Rn(h:tDS Dm.sNx D σ H):Cq D σ H:=by obtain⟨H0,ρ,o,st,e,k⟩:=h;cases e;exact k σ H0 H (.refl st)
theorem OH{s u:Dm.FS}(h:tDS (Dm.aD s u) D σ H):sH (tDS s) (tDS u) D σ H:=by
 obtain⟨H0,ρ,o,st,e,k⟩:=h;unfold Dm.aD at e;split at e
 ·rename_i ρ1 e1;exact⟨H0,ρ,.nx ρ1,st,e1,fun σ' H0' H' t=>⟨H0',ρ1,o,t.st,e,k.pre t⟩⟩
 ·rename_i h1;cases o with
  |nx ρ1=>exact absurd e (h1 ρ1)
  |bk ρ1=>exact⟨H0,ρ,_,st,e,k⟩
  |ct ρ1=>exact⟨H0,ρ,_,st,e,k⟩
  |ret z ρ1=>exact⟨H0,ρ,_,st,e,k⟩
theorem LC{f:Dm.FE}(h:tDS (Dm.sE f) D σ H):tw (tD f) D σ H:=by
 obtain⟨H0,ρ,o,st,e,k⟩:=h;unfold Dm.sE at e;split at e
 ·cases e
 ·rename_i x ρ1 e1;cases e;exact⟨H0,ρ,x,ρ1,st,e1,fun v H0' H' t r=>k σ H0' H' t.sst⟩
theorem OI{f:Dm.FE}(h:tDS (Dm.sR f) D σ H):Oe (tD f) D σ H:=by
 obtain⟨H0,ρ,o,st,e,k⟩:=h;unfold Dm.sR at e;split at e
 ·cases e
 ·rename_i d ρ1 e1;cases e;refine⟨H0,ρ,_,ρ1,st,e1,fun v H0' H' t r=>?_⟩;obtain⟨a,e,n,no,n0,w⟩:=r;exact k σ v H0' H' t.sst ⟨a,e,.inl n,n0,w⟩ fun d' a' _ e' z=>by rw[e]at e';cases e';exact no z
 ·rename_i d ρ1 e1;cases e;exact⟨H0,ρ,_,ρ1,st,e1,fun v H0' H' t r=>k σ v H0' H' t.sst r fun d' a' z=>by cases z⟩
 ·rename_i i ρ1 e1;split at e
  ·rename_i d h1;cases e;refine⟨H0,ρ,_,ρ1,st,e1,fun v H0' H' t r=>?_⟩;obtain⟨q,_⟩:=r;obtain⟨a,q',n0,w⟩:=t.st.ow i d h1;rw[q]at q';cases q';refine k σ _ H0' H' ⟨t.st.mask i,t.stp,fun b z=>?_,rfl⟩ ⟨a,rfl,.inr (t.own a ⟨i,d,h1,q⟩),n0,w⟩ fun d' a' _ e' z=>?_
   ·obtain⟨j,d2,_,z1,z2⟩:=cP z;exact .inl (t.own b ⟨j,d2,z1,z2⟩)
   ·cases e';obtain⟨j,d2,hj,z1,z2⟩:=cP z;exact hj (t.st.dis j i d2 d a z1 h1 z2 q)
  ·rename_i d h1;cases e;refine⟨H0,ρ,_,ρ1,st,e1,fun v H0' H' t r=>?_⟩;obtain⟨q,_⟩:=r;obtain⟨u,q',w⟩:=t.st.sh i d h1;rw[q]at q';cases q';exact k σ _ H0' H' t.sst w fun d' a' z=>by cases z
  ·cases e
theorem OJ{t:Dm.FT}{a b:Dm.FS}(h:tDS (Dm.sIf t a b) D σ H):K5 (tDT t) (tDS a) (tDS b) D σ H:=by
 obtain⟨H0,ρ,o,st,e,k⟩:=h;unfold Dm.sIf at e;split at e
 ·cases e
 ·rename_i ρ1 e1;refine⟨H0,ρ,true,ρ1,st,e1,fun H1 Hb t1=>?_⟩;dsimp only;rw[if_pos rfl];exact⟨H1,ρ1,o,t1.st,e,k.pre t1.sst⟩
 ·rename_i ρ1 e1;refine⟨H0,ρ,false,ρ1,st,e1,fun H1 Hb t1=>?_⟩;dsimp only;rw[if_neg Tf];exact⟨H1,ρ1,o,t1.st,e,k.pre t1.sst⟩
end
theorem iV{σ:St}{i j:Nat}{c d:Option V}(h:(σ.set i c)[j]?=some d):(j=i/\d=c)\/(j≠i/\σ[j]?=some d):=by
 by_cases e:j=i
 ·subst e;by_cases l:j<σ.length
  ·rw[SS l]at h;exact .inl ⟨rfl,(Option.some.inj h).symm⟩
  ·rw[Tc (by simpa using UI.mp l)]at h;cases h
 ·rw[eg (Ne.symm e)]at h;exact .inr ⟨e,h⟩
theorem az.inσ{H0 H:Hp}{σ:St}{ρ:Dm.Env}{i:Nat}{c d:Dm.Cell}(st:az H0 H σ ρ)(h:(ρ.set i c)[i]?=some d):i<σ.length:=by have:=(Sw.mp h).1;rw[S3]at this;rw[st.len];exact this
theorem fQ{σ:St}{ρ:Dm.Env}{i:Nat}{v:V}{d:Dm.Dat}{b:Addr}(h:ao (σ.set i (some v)) (ρ.set i (.sh d)) b):ao σ ρ b:=by
 obtain⟨j,d',h1,h2⟩:=h;rcases aR h1 with⟨_,z⟩ | ⟨hj,h1⟩
 ·cases z
 ·rcases iV h2 with⟨z,_⟩ | ⟨_,h2⟩
  ·exact absurd z hj
  ·exact⟨j,d',h1,h2⟩
theorem az.uP{H0 H:Hp}{σ:St}{ρ:Dm.Env}{i:Nat}{v:V}{d:Dm.Dat}(st:az H0 H σ ρ)(r:Rep H0 v d):az H0 H (σ.set i (some v)) (ρ.set i (.sh d)) where
 same:=st.same
 len:=by rw[S3,S3];exact st.len
 sh:=fun j d' h=>by
  rcases aR h with⟨rfl,z⟩ | ⟨hj,h'⟩
  ·cases z;exact⟨v,SS (st.inσ h),r⟩
  ·obtain⟨u,q,w⟩:=st.sh j d' h';exact⟨u,by rw[eg (Ne.symm hj)];exact q,w⟩
 ow:=fun j d' h=>by
  rcases aR h with⟨_,z⟩ | ⟨hj,h'⟩
  ·cases z
  ·obtain⟨u,q,w⟩:=st.ow j d' h';exact⟨u,by rw[eg (Ne.symm hj)];exact q,w⟩
 dis:=fun j k d1 d2 b h1 h2 h3 h4=>by
  rcases aR h1 with⟨_,z⟩ | ⟨hj,h1⟩
  ·cases z
  rcases aR h2 with⟨_,z⟩ | ⟨hk,h2⟩
  ·cases z
  rw[eg (Ne.symm hj)]at h3;rw[eg (Ne.symm hk)]at h4;exact st.dis j k d1 d2 b h1 h2 h3 h4
theorem az.yQ{H0 H:Hp}{σ:St}{ρ:Dm.Env}{i:Nat}{a:Addr}{d:Dm.Dat}(st:az H0 H σ ρ)(no:¬ao σ ρ a)(n0:H0 a=none)(w:Own H0 H a d):az H0 H (σ.set i (some (.ref a))) (ρ.set i (.ow d)) where
 same:=st.same
 len:=by rw[S3,S3];exact st.len
 sh:=fun j d' h=>by
  rcases aR h with⟨_,z⟩ | ⟨hj,h'⟩
  ·cases z
  ·obtain⟨u,q,w⟩:=st.sh j d' h';exact⟨u,by rw[eg (Ne.symm hj)];exact q,w⟩
 ow:=fun j d' h=>by
  rcases aR h with⟨rfl,z⟩ | ⟨hj,h'⟩
  ·cases z;exact⟨a,SS (st.inσ h),n0,w⟩
  ·obtain⟨u,q,w⟩:=st.ow j d' h';exact⟨u,by rw[eg (Ne.symm hj)];exact q,w⟩
 dis:=fun j k d1 d2 b h1 h2 h3 h4=>by
  rcases aR h1 with⟨e1,z1⟩ | ⟨hj,h1'⟩
  ·rcases aR h2 with⟨e2,z2⟩ | ⟨hk,h2'⟩
   ·rw[e1,e2]
   ·rcases iV h3 with⟨_,z⟩ | ⟨z,_⟩
    ·cases z;rw[eg (Ne.symm hk)]at h4;exact absurd ⟨k,d2,h2',h4⟩ no
    ·exact absurd e1 z
  ·rcases aR h2 with⟨e2,z2⟩ | ⟨hk,h2'⟩
   ·rcases iV h4 with⟨_,z⟩ | ⟨z,_⟩
    ·cases z;rw[eg (Ne.symm hj)]at h3;exact absurd ⟨j,d1,h1',h3⟩ no
    ·exact absurd e2 z
   ·rw[eg (Ne.symm hj)]at h3;rw[eg (Ne.symm hk)]at h4;exact st.dis j k d1 d2 b h1' h2' h3 h4
theorem l0{σ:St}{ρ:Dm.Env}{i:Nat}{a b:Addr}{d:Dm.Dat}(h:ao (σ.set i (some (.ref a))) (ρ.set i (.ow d)) b):b=a\/ao σ ρ b:=by
 obtain⟨j,d',h1,h2⟩:=h;rcases aR h1 with⟨e,_⟩ | ⟨hj,h1⟩
 ·rcases iV h2 with⟨_,z⟩ | ⟨z,_⟩
  ·cases z;exact .inl rfl
  ·exact absurd e z
 ·rcases iV h2 with⟨z,_⟩ | ⟨_,h2⟩
  ·exact absurd z hj
  ·exact .inr ⟨j,d',h1,h2⟩
theorem az.write{H0 H:Hp}{σ:St}{ρ:Dm.Env}{i:Nat}{a:Addr}{d d':Dm.Dat}{o:HO}(st:az H0 H σ ρ)(e:ρ[i]?=some (.ow d))(q:σ[i]?=some (some (V.ref a)))(w':Own H0 (upd H a o) a d') :
  az H0 (upd H a o) σ (ρ.set i (.ow d')):=by
 obtain⟨a',q',n,w⟩:=st.ow i d e;rw[q]at q';cases q';refine⟨fun b u z=>?_,by rw[S3];exact st.len,fun j d1 h=>?_,fun j d1 h=>?_,fun j k d1 d2 b h1 h2 h3 h4=>?_⟩
 ·rw[aj (aO z n)];exact st.same _ _ z
 ·rcases aR h with⟨_,z⟩ | ⟨hj,h'⟩
  ·cases z
  ·exact st.sh j d1 h'
 ·rcases aR h with⟨rfl,z⟩ | ⟨hj,h'⟩
  ·cases z;exact⟨a,q,n,w'⟩
  ·obtain⟨b,q1,n1,w1⟩:=st.ow j d1 h';have nb:b≠a:=fun y=>hj (st.dis j i d1 d a h' e (y▸q1) q);exact⟨b,q1,n1,w1.mono (av.refl _) (aj nb)⟩
 ·have f:∀{j:Nat} {d1:Dm.Dat},(ρ.set i (.ow d'))[j]?=some (.ow d1)->∃d2,ρ[j]?=some (.ow d2):=fun {j d1} h=>by
   rcases aR h with⟨rfl,_⟩ | ⟨_,h'⟩
   ·exact⟨d,e⟩
   ·exact⟨d1,h'⟩
  obtain⟨x1,y1⟩:=f h1;obtain⟨x2,y2⟩:=f h2;exact st.dis j k x1 x2 b y1 y2 h3 h4
theorem dS{σ:St}{ρ:Dm.Env}{i:Nat}{d d':Dm.Dat}{b:Addr}(e:ρ[i]?=some (.ow d))(h:ao σ (ρ.set i (.ow d')) b):ao σ ρ b:=by
 obtain⟨j,d1,h1,h2⟩:=h;rcases aR h1 with⟨rfl,_⟩ | ⟨_,h'⟩
 ·exact⟨j,d,e,h2⟩
 ·exact⟨j,d1,h',h2⟩
theorem Stp.write{σ:St}{ρ:Dm.Env}{H0 H:Hp}{a:Addr}{o:HO}(w:ao σ ρ a):Stp (ao σ ρ) H0 H H0 (upd H a o):=
 ⟨av.refl _,fun b u e n=>by rw [aj (show b≠a from fun z=>n (by rw [z];exact w))];exact e,fun b u e=>.inr (.inl e),fun b u e=>by
  by_cases z:b=a
  ·subst z;exact⟨o,au⟩
  ·exact⟨u,by rw[aj z];exact e⟩⟩
section
variable{D:Ends}{σ:St}{H:Hp}
theorem Jy{i:Nat}{f:Dm.FE}(h:tDS (Dm.sA i f) D σ H):uF (tD f) (iO i) D σ H:=by
 obtain⟨H0,ρ,o,st,e,k⟩:=h;unfold Dm.sA at e;split at e
 ·cases e
 rename_i hi0;split at e
 ·cases e
 ·rename_i d ρ1 e1;cases e;refine⟨H0,ρ,_,ρ1,st,e1,fun v H0' H' t r=>?_⟩;obtain⟨a,e,n,no,n0,w⟩:=r;subst e;refine k _ H0' H' ⟨t.st.yQ no n0 w,t.stp,fun b z=>?_,eg hi0⟩;rcases l0 z with rfl | z
  ·exact .inr n
  ·exact .inl (t.own b z)
 ·rename_i x ρ1 _ e1;split at e
  ·cases e
  ·rename_i d ρ2 e2;cases e;refine⟨H0,ρ,_,ρ1,st,e1,fun v H0' H' t r=>?_⟩;obtain⟨H1,t1,b1,r1,_,_⟩:=take1 t (av.refl _) r e2;exact k _ H1 H' ⟨t1.st.uP r1,t1.stp,fun b z=>.inl (t1.own b (fQ z)),eg hi0⟩
theorem Aa{ρ:Dm.Env}{i:Nat}{d:Dm.Dat}{j:Nat}(h:Def ρ j):Def (ρ.set i (.sh d)) j:=trivial
noncomputable def gw:List Nat->TGs
 |[]=>Og
 |i::is=>Jo (iO i) (gw is)
theorem uQ{H0 H:Hp}{Q:St->Hp->Prop}:∀{is:List Nat} {xs:List V} {ds:List Dm.Dat} {σ:St} {ρ ρ':Dm.Env},az H0 H σ ρ->aH H0 xs ds->Dm.sets is ds ρ=some ρ' ->
  (∀σ',az H0 H σ' ρ'->(∀a,ao σ' ρ' a->ao σ ρ a)->(∀j,j∉is->σ'[j]?=σ[j]?)->(∀j,Def ρ j->Def ρ' j)->σ'[0]?=σ[0]?->Q σ' H)->gw is xs σ H Q
 |[],_,[],σ,ρ,ρ',st,r,e,k=>by cases r;cases e;exact⟨rfl,k σ st (fun _ z=>z) (fun _ _=>rfl) (fun _ z=>z) rfl⟩
 |i::is,_,d::ds,σ,ρ,ρ',st,r,e,k=>by
  cases r with
  |cons h r=>
   unfold Dm.sets at e;split at e
   ·cases e
   rename_i hi0;refine⟨_,_,rfl,?_⟩;refine uQ (st.uP h) r e fun σ' st' o' n' d' f'=>k σ' st' (fun a z=>fQ (o' a z)) (fun j hj=>?_) (fun j z=>d' j (Aa z)) (f'.trans (eg hi0));rw[n' j fun z=>hj (SA _ z)];exact eg fun z=>hj (by rw[z];exact Sy)
 |[],_,_::_,_,_,_,_,_,e,_=>by cases e
 |_::_,_,[],_,_,_,_,_,e,_=>by cases e
theorem pZ:∀{is:List Nat} {ds:List Dm.Dat} {ρ ρ':Dm.Env},Dm.sets is ds ρ=some ρ'->ds.length=is.length
 |[],[],_,_,_=>rfl
 |i::is,_::ds,_,_,e=>by
  unfold Dm.sets at e;split at e
  ·cases e
  ·simp[pZ (is:=is) (ds:=ds) e]
 |[],_::_,_,_,e=>by cases e
 |_::_,[],_,_,e=>by cases e
noncomputable def BD(is:List Nat)(g:TG)(bd:Dm.FB):Prop:=∀(H0 H:Hp) (σ:St) (ρ ρ':Dm.Env) (x:V) (d:Dm.Dat) (Q:St->Hp->Prop),az H0 H σ ρ->Rep H0 x d->bd d ρ=some ρ' ->
 (∀σ',az H0 H σ' ρ'->(∀a,ao σ' ρ' a->ao σ ρ a)->(∀j,j∉is->σ'[j]?=σ[j]?)->(∀j,Def ρ j->Def ρ' j)->σ'[0]?=σ[0]?->Q σ' H)->g x σ H Q
theorem Ab(i:Nat):BD [i] (iO i) (Dm.bN i):=by
 intro H0 H σ ρ ρ' x d Q st r e k;unfold Dm.bN at e;split at e
 ·cases e
 rename_i hi0;cases e;refine k _ (st.uP r) (fun a z=>fQ z) (fun j hj=>?_) (fun j h=>Aa h) (eg hi0);exact eg (fun z=>hj (by rw[z];exact SV.mpr rfl))
theorem C4{K:gV}{is:List Nat}{n:Nat}{f:Dm.FE}(hn:is.length=n)(h:tDS (Dm.sU is f) D σ H):uF (tD f) (K8 K n (gw is)) D σ H:=by
 obtain⟨H0,ρ,o,st,e,k⟩:=h;unfold Dm.sU at e;split at e
 ·cases e
 ·rename_i x ρ1 e1;split at e
  ·rename_i ds ρ2 e2;split at e
   ·cases e
   ·rename_i ρ3 e3;cases e;refine⟨H0,ρ,_,ρ1,st,e1,fun v H0' H' t r=>?_⟩;obtain⟨H1,t1,b1,r1,_,_⟩:=take1 t (av.refl _) r e2;cases r1 with
    |tup q rs=>refine⟨_,_,rfl,SqT.of (t1.st.same _ _ q),by rw[rs.length,pZ e3,hn],?_⟩;exact uQ t1.st rs e3 fun σ' st' o' _ _ f'=>k σ' H1 H' ⟨st',t1.stp,fun a z=>.inl (t1.own a (o' a z)),f'⟩
  ·cases e
theorem C5{K:gV}(is:List Nat){n:Nat}(hn:is.length=n):BD is (K8 K n (gw is)) (Dm.bT is):=by
 intro H0 H σ ρ ρ' x d Q st r e k;unfold Dm.bT at e;split at e
 ·cases r with
  |tup q rs=>exact⟨_,_,rfl,SqT.of (st.same _ _ q),by rw[rs.length,pZ e,hn],uQ st rs e k⟩
 ·cases e
theorem OL{K:gV}{i:Nat}{f:Dm.FE}(h:tDS (Dm.uM i f) D σ H):tw (tBM K "list" pA (pL i) (tDA [f])) D σ H:=by
 obtain⟨H0,ρ,o,st,e,k⟩:=h;unfold Dm.uM at e;split at e
 ·rename_i ds0 h0;obtain⟨a0,q0,n0,w0⟩:=st.ow i _ h0;refine⟨_,q0,?_⟩;split at e
  ·cases e
  rename_i x ρ1 e1;split at e
  ·cases e
  rename_i d ρ2 e2;split at e
  ·rename_i ds h2;split at e
   ·rename_i hz;cases e;obtain⟨xs0,y0,_⟩:=w0;refine⟨.inl ⟨rfl,xs0,.inl (.inl y0)⟩,?_⟩;refine⟨H0,ρ,[x],ρ1,st,by unfold Dm.eAs;rw[e1];rfl,fun vs H0' H' t r=>?_⟩;cases r with
    |cons r rr=>
     cases rr;obtain⟨H1,t1,b1,r1,_,_⟩:=take1 t (av.refl _) r e2;obtain⟨a,q,n,w⟩:=t1.st.ow i _ h2;rw[q0]at q;cases q;obtain⟨xs,y,rs⟩:=w;refine⟨a0,xs,_,rfl,rfl,y,by rw[rs.length];exact SN hz (by decide),?_⟩;have ow:ao σ ρ2 a0:=⟨i,_,h2,q0⟩
     refine k σ H1 _ ⟨t1.st.write h2 q0 ⟨_,au,rs.append (.cons r1 .nil)⟩,t1.stp.trans (Stp.write ow) fun b z=>.inl (t1.own b z),fun b z=>.inl (t1.own b (dS h2 z)),rfl⟩
   ·cases e
  ·cases e
 ·cases e
theorem LD(n:Nat)(i:Int):Dm.ixN n i=L2.ixN n i:=rfl
theorem OM{i:Nat}{j f:Dm.FE}(h:tDS (Dm.yL i j f) D σ H):uF (tD f) (iF (pL i) (tD j) Ju) D σ H:=by
 obtain⟨H0,ρ,o,st,e,k⟩:=h;unfold Dm.yL at e;split at e
 ·cases e
 rename_i x ρ1 e1;split at e
 ·cases e
 rename_i d ρ2 e2;split at e
 case h_2=>cases e
 rename_i d0 h2;split at e
 ·rename_i m ρ3 e3;split at e
  ·rename_i ds h3;split at e
   ·cases e
   ·rename_i p e4;cases e;refine⟨H0,ρ,_,ρ1,st,e1,fun v H0' H' t r=>?_⟩;obtain⟨H1,t1,b1,r1,_,_⟩:=take1 t (av.refl _) r e2;obtain⟨a0,q0,_,_⟩:=t1.st.ow i _ h2;refine⟨_,q0,H1,ρ2,_,ρ3,t1.st,e3,fun u H2 Hc t2 r2=>?_⟩;obtain⟨a,q,n,w⟩:=t2.st.ow i _ h3;rw[q0]at q;cases q;obtain⟨xs,y,rs⟩:=w;refine⟨a0,xs,m,p,rfl,Rep.isInt r2,y,by rw[rs.length];exact e4,?_⟩;have ow:ao σ ρ3 a0:=⟨i,_,h3,q0⟩
    have tt:=t1.trans t2;refine k σ H2 _ ⟨t2.st.write h3 q0 ⟨_,au,rs.set (r1.mono t2.stp.s0) p⟩,tt.stp.trans (Stp.write ow) fun b z=>.inl (tt.own b z),fun b z=>.inl (tt.own b (dS h3 z)),rfl⟩
  ·cases e
 ·cases e
theorem G4{t:Dm.FT}{body:Dm.FS}{n:Nat}(h:tDS (Dm.whD t body n) D σ H):Cw (tDT t) (tDS body) D σ H:=by
 refine⟨fun m σ H=>tDS (Dm.whD t body m) D σ H,⟨n,h⟩,?_⟩;rintro m σ H ⟨H0,ρ,o,st,e,k⟩;cases m with
 |zero=>unfold Dm.whD at e;cases e
 |succ m=>
  unfold Dm.whD at e;split at e
  ·cases e
  ·rename_i ρ1 e1;cases e;refine⟨H0,ρ,false,ρ1,st,e1,fun H1 Hb t1=>?_⟩;dsimp only;rw[if_neg Tf];exact k σ H1 Hb t1.sst
  ·rename_i ρ1 e1;refine⟨H0,ρ,true,ρ1,st,e1,fun H1 Hb t1=>?_⟩;dsimp only;rw[if_pos rfl];refine⟨fun σ' H'=>tDS (Dm.whD t body m) D σ' H',fun σ' H' q=>⟨m,Vs m,q⟩,?_⟩;have k1:=k.pre t1.sst;split at e
   ·rename_i ρ2 e2;exact⟨H1,ρ1,_,t1.st,e2,fun σ' H0' H' t2=>⟨H0',ρ2,o,t2.st,e,k1.pre t2⟩⟩
   ·rename_i ρ2 e2;exact⟨H1,ρ1,_,t1.st,e2,fun σ' H0' H' t2=>⟨H0',ρ2,o,t2.st,e,k1.pre t2⟩⟩
   ·rename_i ρ2 e2;cases e;exact⟨H1,ρ1,_,t1.st,e2,k1⟩
   ·rename_i v ρ2 e2;cases e;exact⟨H1,ρ1,_,t1.st,e2,k1⟩
   ·cases e
noncomputable def JW(J:It)(H00:Hp)(ys:List Dm.Dat):Prop:=∀H0 H,av H00 H0->av H0 H->(∀i,ys.length<=i->J.stop i H) /\
 ∀(i:Nat) (d:Dm.Dat),ys[i]?=some d->J.go i H/\∀x H',J.yld i H x H'->∃H0',aQ H0 H H0' H'/\Rep H0' x d
noncomputable def tDI(fi:Dm.FI):TI:=fun σ H R=>∃H0 ρ ys ρ',az H0 H σ ρ/\fi ρ=some (ys,ρ')/\∀J H0' H',ESt σ ρ H0 H ρ' H0' H'->JW J H0' ys->R J H'
theorem ON{fi:Dm.FI}{bd:Dm.FB}{g:TG}{body:Dm.FS}{is:List Nat}(hb:BD is g bd)(h:tDS (Dm.jL fi bd body) D σ H):CB (tDI fi) g (tDS body) D σ H:=by
 obtain⟨H0,ρ,o,st,e,k⟩:=h;unfold Dm.jL at e;split at e
 ·cases e
 rename_i ys ρ1 e1;refine⟨H0,ρ,ys,ρ1,st,e1,fun J H00 Hb t1 jw=>?_⟩;refine ⟨fun i m σ H=>∃ H0 ρ o,az H0 H σ ρ∧av H00 H0∧m=ys.length-i∧i≤ys.length∧Dm.ni bd body (ys.drop i) ρ=some o∧pY D σ ρ H0 H o,
  ⟨ys.length,H00,ρ1,o,t1.st,av.refl _,by simp,Ti _,by simpa using e,k.pre t1.sst⟩,?_⟩
 rintro i m σ H ⟨H0,ρ,o,st,s00,rfl,hi,e,k⟩;obtain⟨js,jg⟩:=jw H0 H s00 st.same;by_cases hlt:i<ys.length
 ·have hd:ys[i]?=some ys[i]:=by simp[hlt]
  obtain⟨g1,g2⟩:=jg i ys[i] hd;rw[Ud hlt]at e;unfold Dm.ni at e;refine .inr ⟨g1,fun σ' H'=>∃H0 ρ o,az H0 H' σ' ρ/\av H00 H0/\Dm.ni bd body (ys.drop (i+1)) ρ=some o/\pY D σ' ρ H0 H' o,?_,fun x H' y=>?_⟩
  ·rintro σ' H' ⟨H0',ρ',o',h1,h2,h3,h4⟩;exact⟨ys.length-(i+1),by omega,H0',ρ',o',h1,h2,rfl,hlt,h3,h4⟩
  ·obtain⟨H0',gr,rx⟩:=g2 x H' y;split at e
   ·cases e
   ·rename_i ρ2 e2;have t2:=ESt.grow st gr;refine hb H0' H' σ ρ ρ2 x ys[i] _ t2.st rx e2 fun σ2 st2 o2 _ _ f2=>?_;have t3:SSt σ ρ H0 H σ2 ρ2 H0' H':=⟨st2,t2.stp,fun a z=>.inl (o2 a z),f2⟩
    have k3:=k.pre t3;have s3:av H00 H0':=s00.trans gr.s0;split at e
    ·rename_i ρ3 e3;exact⟨H0',ρ2,_,st2,e3,fun σ4 H4 Hd t4=>⟨H4,ρ3,o,t4.st,s3.trans t4.stp.s0,e,k3.pre t4⟩⟩
    ·rename_i ρ3 e3;exact⟨H0',ρ2,_,st2,e3,fun σ4 H4 Hd t4=>⟨H4,ρ3,o,t4.st,s3.trans t4.stp.s0,e,k3.pre t4⟩⟩
    ·rename_i ρ3 e3;cases e;exact⟨H0',ρ2,_,st2,e3,k3⟩
    ·rename_i v ρ3 e3;cases e;exact⟨H0',ρ2,_,st2,e3,k3⟩
    ·cases e
 ·have e':i=ys.length:=by omega
  subst e';rw[UJ]at e;cases e;exact .inl ⟨js _ (Sz _),k σ H0 H (.refl st)⟩
theorem G5{K:gV}{H0:Hp}{a:Addr}{xs:List V}{ds:List Dm.Dat}(hq:Rd H0 a (.lst xs))(rs:aH H0 xs ds):JW (Itl K a) H0 ds:=by intro H0' H s0 s1;have q:SqL K H a xs:=.inl (av.rd s1 (av.rd s0 hq));refine⟨fun i hi=>⟨xs,q,by rw[rs.length];exact hi⟩,fun i d e=>?_⟩;obtain⟨v,hv,rv⟩:=rs.get e;refine⟨⟨xs,v,q,hv⟩,fun x H' y=>?_⟩;obtain⟨e1,y⟩:=y;subst e1;have z:=y xs q;rw[hv]at z;cases z;exact⟨H0',aQ.refl s1,rv.mono s0⟩
theorem LF{K:gV}{H0:Hp}{a:Addr}{xs:List V}{ds:List Dm.Dat}(hq:H0 a=some (.tup xs))(rs:aH H0 xs ds):JW (Itt K a) H0 ds:=by intro H0' H s0 s1;have q:SqT K H a xs:=.inl (.inl (s1 _ _ (s0 _ _ hq)));refine⟨fun i hi=>⟨xs,q,by rw[rs.length];exact hi⟩,fun i d e=>?_⟩;obtain⟨v,hv,rv⟩:=rs.get e;refine⟨⟨xs,v,q,hv⟩,fun x H' y=>?_⟩;obtain⟨e1,y⟩:=y;subst e1;have z:=y xs q;rw[hv]at z;cases z;exact⟨H0',aQ.refl s1,rv.mono s0⟩
theorem we{H0:Hp}{lo:Int}{n:Nat}:JW (Itr lo n) H0 (Dm.ups lo n):=by
 intro H0' H s0 s1;have el:(Dm.ups lo n).length=n:=by simp[Dm.ups]
 refine⟨fun i hi=>by rw[el]at hi;exact hi,fun i d e=>?_⟩;have hi:i<n:=by have:=(Sw.mp e).1;rw[el]at this;exact this
 have hd:d=.int (lo+i):=by unfold Dm.ups at e;rw[SM,Uk hi]at e;exact(Option.some.inj e).symm
 refine⟨hi,fun x H' y=>?_⟩;obtain⟨rfl,rfl⟩:=y;subst hd;exact⟨H0',aQ.refl s1,.int _⟩
variable{R:It->Hp->Prop}
theorem Ro{K:gV}{f:Dm.FE}(h:tDI (Dm.iL f) σ H R):vQ K (tD f) σ H R:=by
 obtain⟨H0,ρ,ys,ρ',st,e,k⟩:=h;unfold Dm.iL at e;split at e
 ·cases e
 rename_i x ρ1 e1;split at e
 ·rename_i ds ρ2 e2;cases e;refine⟨H0,ρ,_,ρ1,st,e1,fun v H0' H' t r=>?_⟩;obtain⟨H1,t1,b1,r1,_,_⟩:=take1 t (av.refl _) r e2;cases r1 with
  |lst q rs=>exact⟨_,rfl,⟨_,.inl (av.rd t1.st.same q)⟩,k _ H1 H' t1 (G5 q rs)⟩
 ·cases e
theorem Rp{K:gV}{f:Dm.FE}(h:tDI (Dm.iT f) σ H R):Cz K (tD f) σ H R:=by
 obtain⟨H0,ρ,ys,ρ',st,e,k⟩:=h;unfold Dm.iT at e;split at e
 ·cases e
 rename_i x ρ1 e1;split at e
 ·rename_i ds ρ2 e2;cases e;refine⟨H0,ρ,_,ρ1,st,e1,fun v H0' H' t r=>?_⟩;obtain⟨H1,t1,b1,r1,_,_⟩:=take1 t (av.refl _) r e2;cases r1 with
  |tup q rs=>exact⟨_,rfl,⟨_,.inl (.inl (t1.st.same _ _ q))⟩,k _ H1 H' t1 (LF q rs)⟩
 ·cases e
theorem OO{f:Dm.FE}(h:tDI (Dm.iR1 f) σ H R):Jp (tDA [f]) σ H R:=by
 obtain⟨H0,ρ,ys,ρ',st,e,k⟩:=h;unfold Dm.iR1 at e;split at e
 ·rename_i j ρ1 e1;split at e
  ·rename_i hb;cases e;refine⟨H0,ρ,[.val (.int j)],_,st,by unfold Dm.eAs;rw[e1];rfl,fun vs H0' H' t r=>?_⟩;cases r with
   |cons r rr=>cases rr;cases Rep.isInt r;have h1:=hb.1;have h2:=hb.2;unfold Dm.BIG at h1 h2;exact⟨j,rfl,by omega,by omega,k _ H0' H' t we⟩
  ·cases e
 ·cases e
theorem OP{f g:Dm.FE}(h:tDI (Dm.iR2 f g) σ H R):Jq (tDA [f,g]) σ H R:=by
 obtain⟨H0,ρ,ys,ρ',st,e,k⟩:=h;unfold Dm.iR2 at e;split at e
 ·rename_i i ρ1 e1;split at e
  ·rename_i j ρ2 e2;split at e
   ·rename_i hb;cases e;refine⟨H0,ρ,[.val (.int i),.val (.int j)],_,st,by unfold Dm.eAs;rw[e1];dsimp only;unfold Dm.eAs;rw[e2];rfl,fun vs H0' H' t r=>?_⟩;cases r with
    |cons r rr=>
     cases rr with
     |cons r' rr=>cases rr;cases Rep.isInt r;cases Rep.isInt r';obtain⟨h1,h2,h3,h4⟩:=hb;unfold Dm.BIG at h1 h2 h3 h4;exact⟨i,j,rfl,⟨by omega,by omega,by omega,by omega⟩,k _ H0' H' t we⟩
   ·cases e
  ·cases e
 ·cases e
noncomputable def tLC(wi:TI)(own:Nat)(g:TG)(tt:TT)(te:TE):TE:=fun σ H Q=>wi σ H fun J H1=>∀D,H1 D=none->∃W:Nat->Nat->St->Hp->Prop,
 (∃m,W 0 m (σ++Dp own none) (upd H1 D (.lst [])))/\∀i m σ' H',W i m σ' H' ->
  (J.stop i H'∧Q (.ref D) H')∨(J.go i H'∧∀ x H2,J.yld i H' x H2→g x σ' H2 fun σ2 H3=>tt σ2 H3 fun b H4=>if b=true
   then te σ2 H4 fun y H5=>∃acc,H5 D=some (.lst acc)/\acc.length<sizeLine/\∃m',m'<m/\W (i+1) m' σ2 (upd H5 D (.lst (acc++[y])))
   else ∃m',m'<m/\W (i+1) m' σ2 H4)
theorem az.aside{H0 H:Hp}{σ:St}{ρ:Dm.Env}{a:Addr}{o:HO}(st:az H0 H σ ρ)(n0:H0 a=none)(no:¬ao σ ρ a):az H0 (upd H a o) σ ρ where
 same:=fun b u z=>by rw[aj (aO z n0)];exact st.same _ _ z
 len:=st.len
 sh:=st.sh
 ow:=fun j d h=>by obtain⟨b,q,n,w⟩:=st.ow j d h;have nb:b≠a:=fun y=>no ⟨j,d,h,y▸q⟩;exact⟨b,q,n,w.mono (av.refl _) (aj nb)⟩
 dis:=st.dis
theorem az.bX{H0 H:Hp}{σ:St}{ρ:Dm.Env}{a:Addr}(st:az H0 H σ ρ)(h:H a=none):¬ao σ ρ a:=fun⟨i,d,h1,h2⟩=>by obtain⟨b,q,n,w⟩:=st.ow i d h1;rw[h2]at q;cases q;obtain⟨o,z⟩:=w.some;rw[h]at z;cases z
theorem l6{α:Type}{l:List α}{r:List α}{i:Nat}{x:α}(h:(l++r)[i]?=some x)(n:x∉r):i<l.length/\l[i]?=some x:=by
 by_cases hi:i<l.length
 ·rw[SG hi]at h;exact⟨hi,h⟩
 ·rw[SW (UI.mp hi)]at h;exact absurd (Ue h) n
theorem C6{d:Dm.Dat}{k:Nat}:Dm.Cell.sh d∉Dp k Dm.Cell.un:=fun h=>by have:=List.eq_of_mem_replicate h;cases this
theorem l7{d:Dm.Dat}{k:Nat}:Dm.Cell.ow d∉Dp k Dm.Cell.un:=fun h=>by have:=List.eq_of_mem_replicate h;cases this
theorem az.ext{H0 H:Hp}{σ:St}{ρ:Dm.Env}(st:az H0 H σ ρ)(k:Nat):az H0 H (σ++Dp k none) (ρ++Dp k .un) where
 same:=st.same
 len:=by simp[st.len]
 sh:=fun i d h=>by obtain⟨hi,h⟩:=l6 h C6;obtain⟨v,q,r⟩:=st.sh i d h;exact⟨v,by rw[SG (by rw[st.len];exact hi)];exact q,r⟩
 ow:=fun i d h=>by obtain⟨hi,h⟩:=l6 h l7;obtain⟨v,q,r⟩:=st.ow i d h;exact⟨v,by rw[SG (by rw[st.len];exact hi)];exact q,r⟩
 dis:=fun i j d e a h1 h2 h3 h4=>by obtain⟨hi,h1⟩:=l6 h1 l7;obtain⟨hj,h2⟩:=l6 h2 l7;rw[SG (by rw[st.len];exact hi)]at h3;rw[SG (by rw[st.len];exact hj)]at h4;exact st.dis i j d e a h1 h2 h3 h4
theorem nt{H0 H:Hp}{σ:St}{ρ:Dm.Env}(st:az H0 H σ ρ){k:Nat}{a:Addr}(h:ao (σ++Dp k none) (ρ++Dp k .un) a):ao σ ρ a:=by obtain⟨i,d,h1,h2⟩:=h;obtain⟨hi,h1⟩:=l6 h1 l7;rw[SG (by rw[st.len];exact hi)]at h2;exact⟨i,d,h1,h2⟩
theorem Stp.aside{O:Addr->Prop}{H0 H H0' H':Hp}{D:Addr}{o:HO}(t:Stp O H0 H H0' H')(hD:H D=none):Stp O H0 H H0' (upd H' D o):=
 ⟨t.s0,fun a u e n=>by rw[aj (aO e hD)];exact t.s1 a u e n,t.s2,fun a u e=>by rw[aj (aO e hD)];exact t.s3 a u e⟩
theorem ESt.eS{σ:St}{ρ ρ':Dm.Env}{H0 H H0' H':Hp}(t:ESt σ ρ H0 H ρ' H0' H'){D:Addr}{o:HO}(h:H D=some o)(n0:H0 D=none)(no:¬ao σ ρ D):H' D=some o/\H0' D=none/\¬ao σ ρ' D:=by
 refine⟨t.stp.s1 D o h no,?_,fun z=>no (t.own D z)⟩;cases q:H0' D with
 |none=>rfl
 |some u=>
  rcases t.stp.s2 D u q with z | z | z
  ·rw[h]at z;cases z
  ·rw[n0]at z;cases z
  ·exact absurd z no
noncomputable def JWa(J:It)(H00:Hp)(pa:Option (Addr×HO))(ys:List Dm.Dat):Prop:=∀H0 H,av H00 H0->av H0 H->(∀q,pa=some q->H q.1=some q.2)->(∀i,ys.length<=i->J.stop i H) /\
 ∀(i:Nat) (d:Dm.Dat),ys[i]?=some d->J.go i H/\∀x H',J.yld i H x H'->∃H0',aQ H0 H H0' H'/\Rep H0' x d
theorem p5{σ:St}{own:Nat}{bd:Dm.FB}{g:TG}{t:Dm.FT}{el:Dm.FE}{is:List Nat}{Q:VK}{H00 Hb:Hp}{ρ1 ρ2:Dm.Env}{ds ys:List Dm.Dat}{J:It}{pa:Option (Addr×HO)}(hb:BD is g bd)(hl:∀i∈is,σ.length<=i)
  (st1:az H00 Hb σ ρ1) (hp:∀q,pa=some q->Hb q.1=some q.2/\H00 q.1=none/\¬ao σ ρ1 q.1) (jw:JWa J H00 pa ds) (hsz:ds.length<=Dm.SZ) (e2:Dm.fq bd t el ds (ρ1++Dp own .un) []=some (ys,ρ2))
  (k:∀v H0' H',ESt σ ρ1 H00 Hb (ρ2.take ρ1.length) H0' H'->iI Hb H0' H' σ (ρ2.take ρ1.length) v (.new (.lst ys))->(∀q,pa=some q->H' q.1=some q.2/\H0' q.1=none)->Q v H') (D:Addr) (hD:Hb D=none) :
  ∃W:Nat->Nat->St->Hp->Prop,(∃m,W 0 m (σ++Dp own none) (upd Hb D (.lst [])))/\∀i m σ' H',W i m σ' H' ->
  (J.stop i H'∧Q (.ref D) H')∨(J.go i H'∧∀ x H2,J.yld i H' x H2→g x σ' H2 fun σ2 H3=>tDT t σ2 H3 fun b H4=>if b=true
   then tD el σ2 H4 fun y H5=>∃acc,H5 D=some (.lst acc)/\acc.length<sizeLine/\∃m',m'<m/\W (i+1) m' σ2 (upd H5 D (.lst (acc++[y])))
   else ∃m',m'<m/\W (i+1) m' σ2 H4):=by
 have hpD:∀q,pa=some q->q.1≠D:=fun q e z=>by have:=(hp q e).1;rw[z,hD]at this;cases this
 have noD:¬ao σ ρ1 D:=st1.bX hD;refine ⟨fun i m σ' H'=>∃ (H0c:Hp) (ρc:Dm.Env) (Bx:List Dm.Dat) (yR:List V),az H0c H' σ' ρc∧av H00 H0c∧m=ds.length-i∧i≤ds.length∧Dm.fq bd t el (ds.drop i) ρc Bx=some (ys,ρ2) ∧
  H' D=some (.lst yR)/\aH H0c yR Bx/\H0c D=none/\Bx.length<=i/\Stp (ao σ ρ1) H00 Hb H0c H'/\(∀j,j<σ.length->σ'[j]?=σ[j]?)/\(∀a,ao σ' ρc a->ao σ ρ1 a)/\(∀j,Def ρ1 j->Def ρc j)/\(∀q,pa=some q->H' q.1=some q.2/\H0c q.1=none/\¬ao σ' ρc q.1),
  ⟨ds.length,H00,ρ1++Dp own .un,[],[],(st1.aside (st1.same.free hD) noD).ext own,av.refl _,by simp,Ti _,by simpa using e2,au,.nil,st1.same.free hD,Ti _,(Stp.refl _ _ _).aside hD,
   fun j hj=>SG hj,fun a z=>nt st1 z,fun j z=>trivial,fun q e=>⟨by rw[aj (hpD q e)];exact(hp q e).1,(hp q e).2.1,fun z=>(hp q e).2.2 (nt st1 z)⟩⟩,?_⟩
 rintro i m σ' H' ⟨H0c,ρc,Bx,yR,sc,s00,rfl,hi,ec,hDl,ra,n0,hal,sp,hσ,ho,hdf,hpc⟩;have nOc:¬ao σ' ρc D:=fun z=>noD (ho D z);obtain⟨js,jg⟩:=jw H0c H' s00 sc.same fun q e=>(hpc q e).1;by_cases hlt:i<ds.length
 ·have hd:ds[i]?=some ds[i]:=by simp[hlt]
  obtain⟨g1,g2⟩:=jg i ds[i] hd;rw[Ud hlt]at ec;unfold Dm.fq at ec;refine .inr ⟨g1,fun y H2 yy=>?_⟩;obtain⟨H0',gr,rx⟩:=g2 y H2 yy;split at ec
  ·cases ec
  rename_i ρ3 e3;have t2:=ESt.grow sc gr;obtain⟨hD2,n02,no2⟩:=t2.eS hDl n0 nOc;have hp2:=fun q e=>t2.eS (hpc q e).1 (hpc q e).2.1 (hpc q e).2.2;refine hb H0' H2 σ' ρc ρ3 y ds[i] _ t2.st rx e3 fun σ3 st3 o3 k3 d3 _=>?_;have no3:¬ao σ3 ρ3 D:=fun z=>no2 (o3 D z);have po3:∀q,pa=some q->¬ao σ3 ρ3 q.1:=fun q e z=>(hp2 q e).2.2 (o3 q.1 z);have hσ3:∀j,j<σ.length->σ3[j]?=σ[j]?:=fun j hj=>(k3 j fun z=>UI.mpr (hl j z) hj).trans (hσ j hj);have ho3:∀a,ao σ3 ρ3 a->ao σ ρ1 a:=fun a z=>ho a (o3 a z);have OQ:∀j,Def ρ1 j->Def ρ3 j:=fun j z=>d3 j (hdf j z);have sp3:Stp (ao σ ρ1) H00 Hb H0' H2:=sp.trans t2.stp fun a z=>.inl (ho a z);have ra3:=ra.mono gr.s0;have s3:av H00 H0':=s00.trans gr.s0;split at ec
  ·cases ec
  ·rename_i ρ4 e4;refine⟨H0',ρ3,false,ρ4,st3,e4,fun p6 H'' t4=>?_⟩;dsimp only;rw[if_neg Tf];obtain⟨hD4,n04,no4⟩:=t4.eS hD2 n02 no3;have hp4:=fun q e=>t4.eS (hp2 q e).1 (hp2 q e).2.1 (po3 q e);exact⟨ds.length-(i+1),by omega,p6,ρ4,Bx,yR,t4.st,s3.trans t4.stp.s0,rfl,hlt,ec,hD4,ra3.mono t4.stp.s0,n04,Nat.le_succ_of_le hal,sp3.trans t4.stp fun a z=>.inl (ho3 a z),hσ3,fun a z=>ho3 a (t4.own a z),fun j z=>t4.dfn j (OQ j z),hp4⟩
  ·rename_i ρ4 e4;refine⟨H0',ρ3,true,ρ4,st3,e4,fun p6 H'' t4=>?_⟩;dsimp only;rw[if_pos rfl];obtain⟨hD4,n04,no4⟩:=t4.eS hD2 n02 no3;have hp4:=fun q e=>t4.eS (hp2 q e).1 (hp2 q e).2.1 (po3 q e);split at ec
   ·cases ec
   rename_i x5 ρ5 e5;split at ec
   ·cases ec
   rename_i y6 ρ6 e6;refine⟨p6,ρ4,x5,ρ5,t4.st,e5,fun v H5 Hc t5 r5=>?_⟩;obtain⟨H6,t6,b6,r6,_,_⟩:=take1 t5 (av.refl _) r5 e6;obtain⟨hD6,n06,no6⟩:=t6.eS hD4 n04 no4;have hp6:=fun q e=>t6.eS (hp4 q e).1 (hp4 q e).2.1 (hp4 q e).2.2;refine⟨yR,hD6,?_,ds.length-(i+1),by omega,H6,ρ6,Bx++[y6],yR++[v],t6.st.aside n06 no6,(s3.trans t4.stp.s0).trans t6.stp.s0,rfl,hlt,ec,au,?_,n06,?_,?_,hσ3,fun a z=>ho3 a (t4.own a (t6.own a z)),fun j z=>t6.dfn j (t4.dfn j (OQ j z)),fun q e=>⟨by rw[aj (hpD q e)];exact(hp6 q e).1,(hp6 q e).2.1,(hp6 q e).2.2⟩⟩
   ·rw[ra.length];unfold Dm.SZ at hsz;exact UR (Tn hal (Tn (U4 hlt) hsz)) (by decide)
   ·exact((ra3.mono t4.stp.s0).mono t6.stp.s0).append (.cons r6 .nil)
   ·rw[SK,TQ];omega
   ·exact((sp3.trans t4.stp fun a z=>.inl (ho3 a z)).trans t6.stp fun a z=>.inl (ho3 a (t4.own a z))).aside hD
 ·have e':i=ds.length:=by omega
  subst e';rw[UJ]at ec;cases ec;refine .inl ⟨js _ (Sz _),k _ H0c H' ?_ ?_ fun q e=>⟨(hpc q e).1,(hpc q e).2.1⟩⟩
  ·have hlen:σ.length<=ρ2.length:=by
    rw[<- sc.len];refine UI.mp fun z=>?_;have q:=hσ σ'.length z;rw[Tc (Sz _),SI z]at q;cases q
   have tk:∀{j:Nat} {c:Dm.Cell},(ρ2.take ρ1.length)[j]?=some c->j<σ.length/\ρ2[j]?=some c:=fun {j c} h=>by
    have hj:j<ρ1.length:=by have:=(Sw.mp h).1;rw[Ul]at this;omega
    rw[Uy hj]at h;exact⟨by rw[st1.len];exact hj,h⟩
   have own':∀a,ao σ (ρ2.take ρ1.length) a->ao σ' ρ2 a:=fun a ⟨j,d,h1,h2⟩=>by obtain⟨hj,h1⟩:=tk h1;exact⟨j,d,h1,(hσ j hj).trans h2⟩
   refine⟨⟨sc.same,?_,fun j d h=>?_,fun j d h=>?_,fun j j' d d' a h1 h2 h3 h4=>?_⟩,sp,fun a z=>ho a (own' a z),fun j z=>?_⟩
   ·rw[Ul,<- st1.len];omega
   ·obtain⟨hj,h⟩:=tk h;obtain⟨v,q,r⟩:=sc.sh j d h;exact⟨v,(hσ j hj).symm.trans q,r⟩
   ·obtain⟨hj,h⟩:=tk h;obtain⟨v,q,r⟩:=sc.ow j d h;exact⟨v,(hσ j hj).symm.trans q,r⟩
   ·obtain⟨hj,h1⟩:=tk h1;obtain⟨hj',h2⟩:=tk h2;exact sc.dis j j' d d' a h1 h2 ((hσ j hj).trans h3) ((hσ j' hj').trans h4)
   ·trivial
  ·refine⟨D,rfl,hD,fun⟨j,d,h1,h2⟩=>?_,n0,yR,hDl,ra⟩;have hj:j<ρ1.length:=by
    have:=(Sw.mp h1).1;rw[Ul]at this;omega
   rw[Uy hj]at h1;exact nOc ⟨j,d,h1,(hσ j (by rw[st1.len];exact hj)).trans h2⟩
theorem yS{fi:Dm.FI}{own:Nat}{bd:Dm.FB}{g:TG}{t:Dm.FT}{el:Dm.FE}{is:List Nat}{Q:VK}(hb:BD is g bd)(hl:∀i∈is,σ.length<=i)(h:tD (Dm.dH fi own bd t el) σ H Q) :
  tLC (tDI fi) own g (tDT t) (tD el) σ H Q:=by
 obtain⟨H0,ρ,x,ρ',st,e,k⟩:=h;unfold Dm.dH at e;split at e
 ·cases e
 rename_i ds ρ1 e1;split at e
 case isFalse=>cases e
 rename_i hsz;split at e
 ·cases e
 rename_i ys ρ2 e2;cases e;refine⟨H0,ρ,ds,ρ1,st,e1,fun J H00 Hb t1 jw D hD=>p5 (pa:=none) hb hl t1.st (fun q e=>by cases e) (fun H0 H s0 s1 _=>jw H0 H s0 s1) hsz e2 (fun v H0' H' t2 r2 _=>k v H0' H' (t1.trans t2) (r2.early fun a n=>t1.stp.gone n)) D hD⟩
theorem aT{n m:Nat}{body:Dm.FS}{vs:List V}{H:Hp}{Q:VK}{E:XK}(h:spD (Dm.fn n m body) vs H Q E):vs.length=n:=by
 obtain⟨H0,ds,z,s,rs,e,k⟩:=h;unfold Dm.fn at e;split at e
 ·rename_i hl;rw[rs.length];exact hl
 ·cases e
theorem cO{N:List Str}{n m:Nat}{body:Dm.FS}{vs:List V}{Q:VK}{E:XK}(hm:N.length=n+m)(h:spD (Dm.fn n m body) vs H Q E) :
  tDS body { nx:=fun _ H'=>Q .non H',rt:=Q } (start N vs) H:=by
 have hvn:=aT h;obtain⟨H0,ds,z,s,rs,e,k⟩:=h;have hl:=rs.length;have no:∀a,¬ao (start N vs) (ds.map Dm.Cell.sh++Dp m .un) a:=fun a ⟨i,d,h1,_⟩=>by
  by_cases hi:i<ds.length
  ·rw[SG (by simpa using hi),SM]at h1;cases q:ds[i]? with
   |none=>rw[q]at h1;cases h1
   |some y=>rw[q]at h1;cases h1
  ·rw[SW (by simpa using hi),S8]at h1;split at h1<;>cases h1
 have st:az H0 H (start N vs) (ds.map Dm.Cell.sh++Dp m .un):=by
  refine⟨s,?_,fun i d h=>?_,fun i d h=>?_,fun i j d e a h1 h2 _ _=>?_⟩
  ·unfold L2.start;simp only[SK,Sx,Us];omega
  ·have hi:i<ds.length:=by
    by_cases hi:i<ds.length
    ·exact hi
    ·rw[SW (by simpa using hi),S8]at h;split at h<;>cases h
   rw[SG (by simpa using hi),SM]at h;cases q:ds[i]? with
   |none=>rw[q]at h;cases h
   |some y=>rw[q]at h;cases h;obtain⟨v,hv,r⟩:=rs.get q;refine⟨v,?_,r⟩;unfold L2.start;rw[SG (by simpa [hl] using hi),SM,hv];rfl
  ·by_cases hi:i<ds.length
   ·rw[SG (by simpa using hi),SM]at h;cases q:ds[i]? with
    |none=>rw[q]at h;cases h
    |some y=>rw[q]at h;cases h
   ·rw[SW (by simpa using hi),S8]at h;split at h<;>cases h
  ·by_cases hi:i<ds.length
   ·rw[SG (by simpa using hi),SM]at h1;cases q:ds[i]? with
    |none=>rw[q]at h1;cases h1
    |some y=>rw[q]at h1;cases h1
   ·rw[SW (by simpa using hi),S8]at h1;split at h1<;>cases h1
 have gr:∀{H0' H'},Stp (ao (start N vs) (ds.map Dm.Cell.sh++Dp m .un)) H0 H H0' H'->av H0' H'->aQ H0 H H0' H':=fun {H0' H'} t ss=>⟨t.s0,fun a o e=>t.s1 a o e (no a),fun a o e=>(t.s2 a o e).imp id fun q=>q.elim id fun z=>absurd z (no a),ss⟩
 unfold Dm.fn at e;rw[if_pos (by rw[<- hl];exact hvn)]at e;split at e
 ·rename_i r ρ' e1;cases e;refine⟨H0,_,_,st,e1,fun σ' v H0' H' t r _=>k v H0' H' (gr t.stp t.st.same) ?_⟩;cases z with
  |val d=>exact r
  |new d=>obtain⟨a,e,n,n0,w⟩:=r;exact⟨a,e,n.elim id fun z=>absurd z (no a),n0,w⟩
 ·rename_i ρ' e1;cases e;exact⟨H0,_,_,st,e1,fun σ' H0' H' t=>k _ H0' H' (gr t.stp t.st.same) .non⟩
 ·cases e
end
open PySem PySem.Spec PyProof.Rows L2
noncomputable def bL(X:Cx)(nm:List Str)(scope:Scope)(own:List Str)(cl:List (Str×Addr))(C:Addr)(s:Shared)(H:Hp)(fp:List Addr):Cx where
 prog:=X.prog
 w:=X.w
 K:=X.K
 mg:=X.mg
 base:=X.base
 A:=X.A
 N:=nm++own
 s₀:=s
 H₀:=H
 env:=compEnvC scope cl C X.env
 outer:=X.stack
 stack:=X.stack
 ex:=fp
 fn:=fun _=>false
 calm:=X.calm
 pn:=[]
 xe:=fun _ _=>False
noncomputable def PTs(X:Cx)(ifs:List Expr)(t:TT):Prop:=
 ∀(pins:List (Addr×Obj)) (s:Shared) (σ:L2.St) (H:Hp) (Q:Bool->Hp->Prop),Inv X pins σ H s->t σ H Q ->
  wpAny (model X.prog X.w) X.A (forIn ifs true fun c r=>if r=true then do let ok <- isTrue c X.env (eval c X.env);pure (Ug ok) else pure (Ug r)) (TP X pins σ Q) X.xe s
noncomputable def G6:TT:=fun _ H Q=>Q true H
theorem Ac{X:Cx}:PTs X [] G6:=fun pins s σ H Q I h=>wpAny_tests_nil ⟨H,I,h⟩
theorem G7{X:Cx}{c:Expr}{t:TT}(h:PT X c t):PTs X [c] t:=fun pins s σ H Q I hq=>wpAny_tests_one (h pins s σ H Q I hq)
theorem gx(env:Env):∀(names:List (Str×NameKind)) (cs:List (Str×Addr)),(∀y∈names,y.2=.free->∃c,env.cells.lookup y.1=some c) ->
  ∃cl,(forIn names cs fun(x:Str×NameKind) (r:List (Str×Addr))=>(if (x.2 == NameKind.free)=true then do let c <- cellOf env x.1;pure (Ug ((x.1,c)::r)) else pure (Ug r):Sem (ForInStep (List (Str×Addr)))))=pure cl /\
   (∀x c,cl.lookup x=some c->env.cells.lookup x=some c\/cs.lookup x=some c)/\(∀y∈names,y.2=.free->∃c,cl.lookup y.1=some c)/\(∀x c,cs.lookup x=some c->∃c',cl.lookup x=some c')
 |[],cs,_=>⟨cs,rfl,fun _ _ h=>.inr h,fun _ h=>(nomatch h),fun _ c h=>⟨c,h⟩⟩
 |(n,k)::r,cs,h=>by
  have hr:∀y∈r,y.2=.free->∃c,env.cells.lookup y.1=some c:=fun y hy=>h y (SA _ hy);by_cases hk:k=.free
  ·subst hk;obtain⟨c,hc⟩:=h (n,.free) Sy rfl;obtain⟨cl,e,h1,h2,h3⟩:=gx env r ((n,c)::cs) hr;refine⟨cl,?_,fun x c' q=>?_,fun y hy hf=>?_,fun x c' q=>?_⟩
   ·rw[List.forIn_cons];have e1:cellOf env n=pure c:=by unfold cellOf;rw[hc]
    simp only[beq_self_eq_true,if_true,e1,pure_bind];exact e
   ·rcases h1 x c' q with z | z
    ·exact .inl z
    ·rw[Tu]at z;cases hx:x == n with
     |true=>
      rw[hx]at z;have:x=n:=by simpa using hx
      subst this;injection z with z
      subst z;exact .inl hc
     |false=>rw[hx]at z;exact .inr z
   ·rcases SH.mp hy with rfl | hy
    ·exact h3 n c (by rw[Tu,beq_self_eq_true])
    ·exact h2 y hy hf
   ·by_cases hx:x=n
    ·subst hx;exact h3 x c (by rw[Tu,beq_self_eq_true])
    ·have hx':(x == n)=false:=by simpa using hx
     exact h3 x c' (by rw[Tu,hx'];exact q)
  ·have hb:(k == NameKind.free)=false:=by simpa using hk
   obtain⟨cl,e,h1,h2,h3⟩:=gx env r cs hr;refine⟨cl,?_,h1,fun y hy hf=>?_,h3⟩
   ·rw[List.forIn_cons];simp only[hb,Ub,if_false,pure_bind];exact e
   ·rcases SH.mp hy with rfl | hy
    ·exact absurd hf hk
    ·exact h2 y hy hf
theorem p7{env:Env}{scope:Scope}(h:∀y∈scope.names,y.2=.free->∃c,env.cells.lookup y.1=some c) :
  ∃cl,closureFor scope env=pure cl/\(∀x c,cl.lookup x=some c->env.cells.lookup x=some c)/\∀y∈scope.names,y.2=.free->∃c,cl.lookup y.1=some c:=by
 obtain⟨cl,e,h1,h2,_⟩:=gx env scope.names [] h;refine⟨cl,?_,fun x c q=>(h1 x c q).elim id fun z=>by simp at z,h2⟩;unfold closureFor;have e':(forIn scope.names ([]:List (Str×Addr)) fun(x:Str×NameKind) (r:List (Str×Addr))=>(if (x.2 == NameKind.free)=true then do let c <- cellOf env x.1;pure (Ug ((x.1,c)::r)) else pure (Ug r):Sem (ForInStep (List (Str×Addr)))))=pure cl:=e
 first
  |(rw[show (forIn scope.names ([]:List (Str×Addr)) _:Sem (List (Str×Addr)))=pure cl from e'];rfl)
  |(simp only[e'];rfl)
theorem uR{prog:Program}{w:World}{A:Around}{R:Result->Shared->Prop}{s:Shared}{elt target iter:Expr}{ifs:List Expr}{scope:Scope}{pos:Pos}{it acc:Value}{env:Env}(I:Nat->Shared->Prop)
  (turn:∀ n s,I n s→wpAny (model prog w) A (pyNext it) (fun r s₁=>match r with
   |none=>R (.ok .next) s₁
   | some v=>wpAny (model prog w) A (letOwnedTupleGo target it v) (fun _ s₁'=>wpAny (model prog w) A (assign target env v) (fun _ s₂=>
     wpAny (model prog w) A (forIn ifs true fun c r=>if r=true then do let ok ← isTrue c env (eval c env);pure (Ug ok) else pure (Ug r)) (fun ok s₃=>
      if ok=true then wpAny (model prog w) A (eval elt env) (fun x s₄=>wpAny (model prog w) A (call (.builtin "list.append") [acc,x]) (fun _ s₅=>∃m,m<n/\I m s₅) (fun _ _=>False) s₄) (fun _ _=>False) s₃
      else ∃m,m<n/\I m s₃) (fun _ _=>False) s₂) (fun _ _=>False) s₁') (fun _ _=>False) s₁) (fun _ _=>False) s)
  (n:Nat) (h:I n s) :
  codeAny (model prog w) A (.compLoop (.ListComp elt [⟨target,iter,ifs,0⟩] scope pos) 0 it acc env) R s:=by
 have no:∀{P:Value->Shared->Prop} (x:Value) (s':Shared),False->P x s':=fun _ _ f=>f.elim;refine codeAny_loop rfl I (fun n s hI=>?_) n h;show wpAny _ A ((compTurn (.ListComp elt [⟨target,iter,ifs,0⟩] scope pos) 0 it acc env).onRaise (fun x=>do noteFrame x env;theTreesLotGoes x)) _ _ s;refine wpAny_noted ?_;rw[compTurn_list];refine wpAny_bind (wpAny_standAt (wpAny_bind (wpAny_mono (turn n s hI) (fun r s₁ h₁=>?_) no)));cases r with
 |none=>exact wpAny_pure h₁
 |some v=>
  refine wpAny_bind (wpAny_mono h₁ (fun _ s₁' h₁'=>?_) no);refine wpAny_bind (wpAny_mono h₁' (fun _ s₂ h₂=>wpAny_bind (wpAny_mono h₂ (fun ok s₃ h₃=>?_) no)) no);cases ok with
  |false=>exact wpAny_pure ⟨rfl,h₃⟩
  |true=>exact wpAny_bind (wpAny_bind (wpAny_mono h₃ (fun x s₄ h₄=>wpAny_bind (wpAny_mono h₄ (fun _ s₅ h₅=>wpAny_pure (wpAny_pure ⟨rfl,h₅⟩)) no)) no))
theorem e_(env:Env):∀(names:List (Str×NameKind)) (x:Str) (k:NameKind),
  (names.map fun(n,k)=>if (k == NameKind.free&&env.scope.kind == .function&&env.kindOf n == some .cell) then (n,VF) else (n,k)).lookup x=some k ->
  ∃k0,names.lookup x=some k0/\(k=k0\/(k0=.free/\k=.cell))
 |[],x,k,h=>by simp at h
 |(n,k1)::r,x,k,h=>by
  have h:List.lookup x ((if (k1 == NameKind.free&&env.scope.kind == .function&&env.kindOf n == some .cell)=true then (n,VF) else (n,k1))::r.map fun(n,k)=>if (k == NameKind.free&&env.scope.kind == .function&&env.kindOf n == some .cell) then (n,VF) else (n,k))=some k:=h;cases hx:x == n with
  |true=>
   by_cases hc:(k1 == NameKind.free&&env.scope.kind == .function&&env.kindOf n == some .cell)=true
   ·rw[if_pos hc,Tu,hx]at h;injection h with h
    have hk:k1=.free:=by simp only[Td,beq_iff_eq]at hc;exact hc.1.1
    exact⟨k1,by rw[Tu,hx],.inr ⟨hk,h.symm⟩⟩
   ·rw[if_neg hc,Tu,hx]at h;injection h with h
    exact⟨k1,by rw[Tu,hx],.inl h.symm⟩
  |false=>
   by_cases hc:(k1 == NameKind.free&&env.scope.kind == .function&&env.kindOf n == some .cell)=true
   ·rw[if_pos hc,Tu,hx]at h;obtain⟨k0,e,z⟩:=e_ env r x k h;exact⟨k0,by rw[Tu,hx];exact e,z⟩
   ·rw[if_neg hc,Tu,hx]at h;obtain⟨k0,e,z⟩:=e_ env r x k h;exact⟨k0,by rw[Tu,hx];exact e,z⟩
structure fK(X:Cx)(nm:List Str)(scope:Scope):Prop where
 kind:scope.kind=.function
 cell:∀y∈scope.names,y.2≠.cell
 names:∀y∈scope.names,y.2=.local->scope.names.lookup y.1=some .local
 free:∀y∈scope.names,y.2=.free->X.env.kindOf y.1=some .cell\/X.env.kindOf y.1=some .free
 apart:∀x∈nm,scope.names.lookup x≠some .local
 len:nm.length=X.N.length
 mask:∀(i:Nat) (x:Str),nm[i]?=some x->X.N[i]?=some x\/scope.names.lookup x=none
section
variable{X:Cx}{nm:List Str}{elt tg iter:Expr}{ifs:List Expr}{scope:Scope}{pos:Pos}{own:List Str}{wi:TI}{g:TG}{tt:TT}{te:TE}
theorem tQ{pins:List (Addr×Obj)}{s2:Shared}{σ:L2.St}{H2:Hp}{cl:List (Str×Addr)}{it:Addr}{fp:List Addr}{tn:Nat->Heap->Prop}{J:It}{Q:VK}{E:Value->Shared->Prop}{RR:Value->Addr->Result->Shared->Prop}
  (hc:X.calm=true) (S:fK X nm scope) (p8:∀x c,cl.lookup x=some c->X.env.cells.lookup x=some c) (By:∀y∈scope.names,y.2=.free->∃c,cl.lookup y.1=some c)
  (hg:∀cl C s H fp,PG (bL X nm scope own cl C s H fp) tg g) (ht:∀cl C s H fp,PTs (bL X nm scope own cl C s H fp) ifs tt) (he:∀cl C s H fp,PE (bL X nm scope own cl C s H fp) elt te)
  (I2:Inv X pins σ H2 s2) (T:Turn X.prog X.w X.K tg J fp it tn) (st2:tn 0 s2.heap) (f2:∀b∈fp,sI X pins H2 b)
  (hR:∀ D,H2 D=none→∃ W:Nat→Nat→L2.St→Hp→Prop,
   (∃m,W 0 m (σ++Dp own.length none) (upd H2 D (.lst [])))/\∀i m σ' H',W i m σ' H' ->
    (J.stop i H'∧Q (.ref D) H')∨(J.go i H'∧∀ x H2,J.yld i H' x H2→g x σ' H2 fun σ2 H3=>tt σ2 H3 fun b H4=>if b=true
     then te σ2 H4 fun y H5=>∃acc,H5 D=some (.lst acc)/\acc.length<sizeLine/\∃m',m'<m/\W (i+1) m' σ2 (upd H5 D (.lst (acc++[y])))
     else ∃m',m'<m/\W (i+1) m' σ2 H4))
  (Rq:∀D C H6 s6,Inv X pins σ H6 s6->H6 C=none->C≠X.env.locals->X.s₀.heap.objs.size<=C->(∀x c,X.env.cells.lookup x=some c->c≠C)->(∀p∈X.pn++pins,p.1≠C)->(∃m,s6.heap.Ns C m)->Q (.ref D) H6->RR (.ref D) C (.ok .next) s6) :
  wpAny (model X.prog X.w) X.A (newList []) (fun acc s₃=>wpAny (model X.prog X.w) X.A (newFunctionEnv scope X.env.globals cl [] X.env.qual none .none (some X.env)) (fun cenv s₄=>codeAny (model X.prog X.w) X.A (.compStart (.ListComp elt [⟨tg,iter,ifs,0⟩] scope pos) 0 (.ref it) acc { cenv with scope:=relabel scope X.env }) (RR acc cenv.locals) s₄) E s₃) E s2:=by
 have no:∀{P:Value->Shared->Prop} (x:Value) (s':Shared),False->P x s':=fun _ _ f=>f.elim;refine wpAny_newObj_type (wpAny_newFunctionEnv S.cell (by intro y hy;simp at hy) (fun h₁ hns₁ hsb₁=>?_) S.kind);dsimp only at hns₁ hsb₁ ⊢;have I3:Inv X pins σ (upd H2 s2.heap.objs.size (.lst [])) { s2 with heap:=s2.heap.push { cls:=.type "list",dict:=none,data:=.seq ([]:List Value).toArray } }:=I2.Lr (t':=s2.toks) (ys:=[]) (its:=[]) .nil (Ti _)
 generalize hG2:s2.heap.push { cls:=.type "list",dict:=none,data:=.seq ([]:List Value).toArray }=G2 at hns₁ hsb₁ I3 ⊢
 have hC:G2.objs.size=s2.heap.objs.size+1:=by rw[<- hG2,Uw]
 have up2:∀b o,s2.heap.get? b=some o->G2.get? b=some o:=fun b o e=>hG2▸PU _ e;have up3:∀b o,G2.get? b=some o->h₁.get? b=some o:=fun b o e=>hsb₁.extBut b o (S0 (SD e)) (PU _ e);have Rt:G2.get? G2.objs.size=none:=Heap.get?_none_of_le (Sz _);have fpo:∀b∈fp,∃o,s2.heap.get? b=some o:=fun b hb=>by obtain⟨o,e,_⟩:=T.obj 0 _ st2 b hb;exact⟨o,e⟩
 have fpC:∀b∈fp,b≠G2.objs.size:=fun b hb=>by obtain⟨o,e⟩:=fpo b hb;exact S0 (SD (up2 b o e))
 have H3C:(upd H2 s2.heap.objs.size (.lst [])) G2.objs.size=none:=I3.hok.fresh (Sz _);have fpD:∀b∈fp,b≠s2.heap.objs.size:=fun b hb=>by obtain⟨o,e⟩:=fpo b hb;exact S0 (SD e)
 have OR:∀b∈fp,b∉frs X.stack:=fun b hb z=>by
  rcases SH.mp (I3.pJ b z) with y | y
  ·exact(f2 b hb).2.1 y
  ·exact(f2 b hb).2.2.1 y
 have ok':(bL X nm scope own cl G2.objs.size { s2 with heap:=G2 } (upd H2 s2.heap.objs.size (.lst [])) fp).Ok:=by
  refine ⟨I3.ok.mod,S.kind,I3.ok.glob,I3.ok.blt,Sz _,fun x y c e1 e2=>I3.ok.inj x y c (p8 x c e1) (p8 y c e2),fun x hx=>?_,fun x c z=>(nomatch z),I3.ok.hd,I3.ok.frames,.inl rfl,
   fun b hb=>⟨fpC b hb,fun x c e=>(f2 b hb).2.2.2.2.1 x c (p8 x c e)⟩,fun b o e=>I3.bs b o e,Tn I3.ok.bsz I3.sz,fun b o e hb=>?_,fun b hb=>OR b hb,I3.stack,I3.uB⟩
  ·have hx:(relabel scope X.env).names.lookup x=some .cell\/(relabel scope X.env).names.lookup x=some .free:=hx;have key:∀k,(relabel scope X.env).names.lookup x=some k->k≠.local->k=.cell\/k=.free->∃c,cl.lookup x=some c:=fun k hk _ hkk=>by
    obtain⟨k0,e0,z⟩:=e_ X.env scope.names x k hk;have m0:=PySem.mem_of_lookup e0;have f0:k0=.free:=by
     rcases z with z | z
     ·subst z;rcases hkk with q | q
      ·exact absurd q (S.cell _ m0)
      ·exact q
     ·exact z.1
    exact By (x,k0) m0 f0
   rcases hx with hx | hx
   ·exact key _ hx (by decide) (.inl rfl)
   ·exact key _ hx (by decide) (.inr rfl)
  ·rcases (f2 b hb).2.2.2.1 with z | z
   ·exact I3.ok.Cn b o e z
   ·exact absurd (SN (SD e) (Tn I3.ok.bsz z)) (Tq _)
 have stat:∀{H':Hp},(∀b∈fp,H' b=none)->∀b∈fp,sI (bL X nm scope own cl G2.objs.size { s2 with heap:=G2 } (upd H2 s2.heap.objs.size (.lst [])) fp) [] H' b:=fun hn b hb=>⟨hn b hb,fpC b hb,OR b hb,.inl hb,fun x c e=>(f2 b hb).2.2.2.2.1 x c (p8 x c e),fun p hp=>(nomatch (show p∈([]:List (Addr×Obj)) from hp))⟩
 have I4:Inv (bL X nm scope own cl G2.objs.size { s2 with heap:=G2 } (upd H2 s2.heap.objs.size (.lst [])) fp) [] (σ++Dp own.length none) (upd H2 s2.heap.objs.size (.lst [])) { s2 with heap:=h₁,toks:=s2.toks+([]:List (Str×Value)).length }:=by
  refine⟨ok',rfl,I3.bare,Un.kept up3,⟨_,hns₁,fun i x v e1 e2 e3=>?_⟩,fun x c e=>?_,H3C,fun x c e=>I3.dG x c (p8 x c e),fun p hp=>(nomatch (show p∈([]:List (Addr×Obj)) from hp)),I3.hok.kept up3,?_⟩
  ·have e1:(nm++own)[i]?=some x:=e1;have hi:i<σ.length:=by
    by_cases hi:i<σ.length
    ·exact hi
    ·rw[SW (UI.mp hi),S8]at e2;split at e2<;>cases e2
   rw[SG hi]at e2;rw[SG (by rw[S.len,<- I3.len];exact hi)]at e1;have key:∀k,(relabel scope X.env).names.lookup x=some k->k=.local\/k=.cell\/k=.free->scope.names.lookup x=some .free/\(k=.cell\/k=.free):=fun k hk hkk=>by
    obtain⟨k0,e0,z⟩:=e_ X.env scope.names x k hk;have m0:=PySem.mem_of_lookup e0;have n1:k0≠.local:=fun y=>S.apart x (Ue e1) (y▸e0);have n2:k0≠.cell:=S.cell _ m0;rcases z with z | z
    ·subst z;rcases hkk with q | q | q
     ·exact absurd q n1
     ·exact absurd q n2
     ·subst q;exact⟨e0,.inr rfl⟩
    ·obtain⟨z1,z2⟩:=z;subst z1;subst z2;exact⟨e0,.inl rfl⟩
   have hk:∃k,(relabel scope X.env).names.lookup x=some k/\(k=.cell\/k=.free)/\scope.names.lookup x=some .free:=by
    rcases (show (relabel scope X.env).names.lookup x=some .local\/(relabel scope X.env).names.lookup x=some .cell\/(relabel scope X.env).names.lookup x=some .free from e3) with q | q | q
    ·obtain⟨a,b⟩:=key _ q (.inl rfl);exact⟨_,q,b,a⟩
    ·obtain⟨a,b⟩:=key _ q (.inr (.inl rfl));exact⟨_,q,b,a⟩
    ·obtain⟨a,b⟩:=key _ q (.inr (.inr rfl));exact⟨_,q,b,a⟩
   obtain⟨k,hk1,hk2,hk3⟩:=hk;have m0:=PySem.mem_of_lookup hk3;obtain⟨c,hcc⟩:=By (x,.free) m0 rfl;obtain⟨m,hn,hl⟩:=I3.loc;have hout:=S.free (x,.free) m0 rfl;have Ru:Vis X.env.scope x:=by
    rcases hout with q | q
    ·exact .inr (.inl q)
    ·exact .inr (.inr q)
   have e1':X.N[i]?=some x:=by
    rcases S.mask i x e1 with z | z
    ·exact z
    ·rw[z]at hk3;cases hk3
   obtain⟨u,ru,lk⟩:=hl i x v e1' e2 Ru;refine⟨u,ru,.inr ⟨?_,c,hcc,?_⟩⟩
   ·rcases hk2 with q | q
    ·subst q;exact .inl hk1
    ·subst q;exact .inr hk1
   ·rcases lk with⟨q,_⟩ | ⟨_,c',e',z⟩
    ·rcases hout with y | y
     ·rw[q]at y;cases y
     ·rw[q]at y;cases y
    ·rw[p8 x c hcc]at e';cases e';obtain⟨o,ho,hd⟩:=z;exact⟨o,up3 c o ho,hd⟩
  ·obtain⟨v,o,ho,hd⟩:=I3.cell x c (p8 x c e);exact⟨v,o,up3 c o ho,hd⟩
  ·show (σ++Dp own.length none).length=(nm++own).length;rw[SK,SK,Us,I3.len,S.len]
 obtain⟨W,⟨m0,w0⟩,turn⟩:=hR s2.heap.objs.size I2.fresh;have st4:tn 0 h₁:=T.keep 0 _ _ st2 fun b hb o e=>up3 b o (up2 b o e);have Rv:∀b∈fp,(upd H2 s2.heap.objs.size (.lst [])) b=none:=fun b hb=>by rw[aj (fpD b hb)];exact(f2 b hb).1
 have loop:∀s₃:Shared,s₃={ s2 with heap:=h₁,toks:=s2.toks+([]:List (Str×Value)).length } ->
   codeAny (model X.prog X.w) X.A (.compLoop (.ListComp elt [⟨tg,iter,ifs,0⟩] scope pos) 0 (.ref it) (.ref s2.heap.objs.size) (compEnvC scope cl G2.objs.size X.env))
    (RR (.ref s2.heap.objs.size) G2.objs.size) s₃:=by
  rintro s₃ rfl;refine uR (fun n s'=>∃i σ' H',Inv (bL X nm scope own cl G2.objs.size { s2 with heap:=G2 } (upd H2 s2.heap.objs.size (.lst [])) fp) [] σ' H' s'/\tn i s'.heap/\(∀b∈fp,H' b=none)/\W i n σ' H') ?_ m0
   ⟨0,_,_,I4,st4,Rv,w0⟩
  rintro n s5 ⟨i,σ5,H5,I5,st5,fr5,w5⟩;rcases turn i n σ5 H5 w5 with⟨stop,q⟩ | ⟨go,step⟩
  ·refine wpAny_mono (T.done (bL X nm scope own cl G2.objs.size { s2 with heap:=G2 } (upd H2 s2.heap.objs.size (.lst [])) fp) rfl rfl rfl hc i [] s5 σ5 H5 (fun _ _=>False) I5 (stat fr5) st5 stop) (fun r s6 hr6=>?_) no;obtain⟨hr,I6⟩:=hr6;subst hr;have I7:Inv X pins σ H5 s6:=I3.N_ (ch:=fp) I6.os I6.base I6.hok I6.bare fun b hb=>⟨(f2 b hb).2.2.2.1,(f2 b hb).2.1,(f2 b hb).2.2.2.2.1,(f2 b hb).2.2.2.2.2⟩;refine Rq _ _ H5 s6 I7 I6.free (Ux (show X.env.locals<G2.objs.size from I3.lt)) I3.sz (fun x c e=>?_) (fun p hp=>?_) (let ⟨m,hn,_⟩:=I6.loc;⟨m,hn⟩) q
   ·obtain⟨v,z⟩:=I3.cell x c e;exact S0 z.lt
   ·exact S0 (SD (I3.pin p hp).1)
  ·refine wpAny_mono (T.item (bL X nm scope own cl G2.objs.size { s2 with heap:=G2 } (upd H2 s2.heap.objs.size (.lst [])) fp) rfl rfl rfl hc i [] s5 σ5 H5 (fun _ _=>False) I5 (stat fr5) st5 go) (fun r s6 hr6=>?_) no;obtain⟨u,hr,h6⟩:=hr6;subst hr;refine wpAny_mono h6 (fun _ s7 h7=>?_) no;obtain⟨x,H7,I7,r7,y7,st7,fr7⟩:=h7;have I7':=I7.pinned (stat fr7) (T.obj _ _ st7);have again:∀{s9:Shared} {σ9:L2.St} {H9:Hp} {m':Nat},m'<n->Inv (bL X nm scope own cl G2.objs.size { s2 with heap:=G2 } (upd H2 s2.heap.objs.size (.lst [])) fp) ([]++pM fp s7.heap) σ9 H9 s9->W (i+1) m' σ9 H9 ->
     ∃m,m<n/\∃i σ' H',Inv (bL X nm scope own cl G2.objs.size { s2 with heap:=G2 } (upd H2 s2.heap.objs.size (.lst [])) fp) [] σ' H' s9/\tn i s9.heap/\(∀b∈fp,H' b=none)/\W i m σ' H':=fun {s9 σ9 H9 m'} hm I9 w9=>by
    refine⟨m',hm,i+1,σ9,H9,I9.lR,T.keep _ _ _ st7 fun b hb o e=>(I9.pin (b,o) (S9 _ (S9 _ (gR hb e)))).1,fun b hb=>?_,w9⟩;obtain⟨o,e,d⟩:=T.obj _ _ st7 b hb;exact(I9.pin (b,o) (S9 _ (S9 _ (gR hb e)))).2.1
   refine wpAny_mono (hg cl G2.objs.size _ _ fp _ s7 σ5 H7 x u _ I7' r7 (step x H7 y7)) (fun _ s8 h8=>?_) no;obtain⟨σ8,H8,I8,q8⟩:=h8;refine wpAny_mono (ht cl G2.objs.size _ _ fp _ s8 σ8 H8 _ I8 q8) (fun b s9 h9=>?_) no;obtain⟨H9,I9,q9⟩:=h9;cases b with
   |false=>rw[if_neg Tf]at q9 ⊢;obtain⟨m',hm,w9⟩:=q9;exact again hm I9 w9
   |true=>rw[if_pos rfl]at q9 ⊢;refine wpAny_mono (he cl G2.objs.size _ _ fp _ s9 σ8 H9 _ I9 q9) (fun y s10 h10=>?_) no;obtain⟨yv,H10,I10,r10,acc,hacc,hlen,m',hm,w10⟩:=h10;refine wpAny_mono (jC (X:=bL X nm scope own cl G2.objs.size { s2 with heap:=G2 } (upd H2 s2.heap.objs.size (.lst [])) fp) _ s10 σ8 H10 (.ref s2.heap.objs.size) [yv] (.ref s2.heap.objs.size) [y] (fun _ H'=>H'=upd H10 s2.heap.objs.size (.lst (acc++[yv]))) I10 rfl (.cons r10 .nil) ⟨_,acc,yv,rfl,rfl,hacc,hlen,rfl⟩) (fun _ s11 h11=>?_) no;obtain⟨_,H11,I11,_,e11⟩:=h11;subst e11;exact again hm I11 w10
 exact codeAny_compStart_list (loop _ rfl) (T.self _ 0 _ _ _ st4 (loop _ rfl))
theorem Ad(hc:X.calm=true)(S:fK X nm scope)(hi:PI X tg iter wi)
  (hg:∀cl C s H fp,PG (bL X nm scope own cl C s H fp) tg g) (ht:∀cl C s H fp,PTs (bL X nm scope own cl C s H fp) ifs tt) (he:∀cl C s H fp,PE (bL X nm scope own cl C s H fp) elt te)
  (hs:∀x,foldedSetIterable iter X.env x=pure x:=by intro _;rfl):PE X (.ListComp elt [⟨tg,iter,ifs,0⟩] scope pos) (tLC wi own.length g tt te):=by
 intro pins s σ H Q I h;obtain⟨cl,hclos,p8,By⟩:=p7 (env:=X.env) (scope:=scope) fun y hy hf=>I.ok.has y.1 (S.free y hy hf);rw[eval_ListComp];refine wpAny_comprehension_free (use:=none) rfl hs hclos S.kind S.names (thn (hi pins s σ H _ I h) fun v s1 h1=>thn h1 fun itv s2 h2=>?_);obtain⟨it,fp,tn,J,H2,e,I2,T,st2,f2,hR⟩:=h2;subst e;refine tQ (Q:=Q) (RR:=fun acc C=>compPost (model X.prog X.w) X.A X.xe none (EP X pins σ Q) acc C) hc S p8 By hg ht he I2 T st2 f2 hR ?_;intro D C H6 s6 I6 hCn hCL hCs hCc hCp hns q;obtain⟨m,hn⟩:=hns;refine⟨m,hn,fun h' hs'=>⟨.ref D,H6,I6.turned (t':=s6.toks) (fun b o hb e=>(hs'.2 b hb).trans e) hCn hCL (.inr hCs) hCc hCp,rfl,q⟩⟩
theorem iW{i:Nat}{y:Str}{py spos:Pos}(hN:X.N.Nodup)(hi':X.N[i]?=some y)(hy:Loc X.env.scope y)(hc:X.calm=true)(S:fK X nm scope)(hi:PI X tg iter wi)
  (hg:∀cl C s H fp,PG (bL X nm scope own cl C s H fp) tg g) (ht:∀cl C s H fp,PTs (bL X nm scope own cl C s H fp) ifs tt) (he:∀cl C s H fp,PE (bL X nm scope own cl C s H fp) elt te)
  (hsw:swapsWith (.ListComp elt [⟨tg,iter,ifs,0⟩] scope pos) (some (.Name y py)) spos.line X.env=pure true:=by rfl)
  (hs:∀x,foldedSetIterable iter X.env x=pure x:=by intro _;rfl) (hf:X.fn y=true\/X.env.scope.names.lookup y=some .local:=by trivial) :
  PS X (.Assign [.Name y py] (.ListComp elt [⟨tg,iter,ifs,0⟩] scope pos) spos) (uF (tLC wi own.length g tt te) (iO i)):=by
 intro pins s σ H Dn I h;obtain⟨cl,hclos,p8,By⟩:=p7 (env:=X.env) (scope:=scope) fun y hy hf=>I.ok.has y.1 (S.free y hy hf);rw[exec_Assign_Name_used _ _ _ _ hsw];refine wpAny_bind (wpAny_standAt (wpAny_bind ?_));show wpAny _ X.A (do let _ <- comprehension (.ListComp elt [⟨tg,iter,ifs,0⟩] scope pos) scope X.env _ (newList []) false (eval iter X.env) (some (assign (.Name y py) X.env))) _ _ s;refine wpAny_bind (wpAny_mono (wpAny_comprehension_free (use:=some (assign (.Name y py) X.env)) (Q:=fun _ s'=>SP X pins Dn .next s') rfl hs hclos S.kind S.names
  (thn (hi pins s σ H _ I h) fun v s1 h1=>thn h1 fun itv s2 h2=>?_)) (fun _ s' hq=>wpAny_pure (wpAny_pure hq)) fun _ _ e=>e)
 obtain⟨it,fp,tn,J,H2,e,I2,T,st2,f2,hR⟩:=h2;subst e;refine tQ (Q:=fun x H1=>iO i x σ H1 Dn.nx) (RR:=fun acc C=>compPost (model X.prog X.w) X.A X.xe (some (assign (.Name y py) X.env)) (fun _ s'=>SP X pins Dn .next s') acc C) hc S p8 By hg ht he I2 T st2 f2 hR ?_;intro D C H6 s6 I6 hCn hCL hCs hCc hCp hns q;obtain⟨m,hn⟩:=hns;show wpAny _ X.A (assign (.Name y py) X.env (.ref D)) _ _ _;refine wpAny_assign_Name (m8 I6 hN hi' hy (v:=.ref D) rfl (fun s7 I7 h7=>?_) hf);obtain⟨a,sb,ha⟩:=h7;have hCa:C≠a:=by
  rcases ha with ha | ha
  ·rw[ha];exact hCL
  ·exact Ne.symm (hCc y a ha)
 refine⟨m,hn.sameBut sb hCa,fun h' hs'=>⟨_,H6,I7.turned (t':=s7.toks) (fun b o hb e=>(hs'.2 b hb).trans e) hCn hCL (.inr hCs) hCc hCp,q⟩⟩
end
mutual
noncomputable def toPy:Dm.Dat->PyData
 |.non=>.none
 |.bl b=>.bool b
 |.int i=>.int i
 |.str s=>.str ⟨s.toArray⟩
 |.tup xs=>.tuple (dY xs)
 |.lst xs=>.list (dY xs)
 |.dct _ _=>.dict []
 |.exc _=>.dict []
 |.fn _=>.dict []
noncomputable def dY:List Dm.Dat->List PyData
 |[]=>[]
 |x::xs=>toPy x::dY xs
end
mutual
theorem l8:∀a b:Dm.Dat,TY (toPy a) (toPy b)=Dm.eqD a b
 |.non,b=>by cases b<;>simp[toPy,TY,Dm.eqD]
 |.bl x,b=>by cases b<;>simp[toPy,TY,Dm.eqD,Dm.b2i]
 |.int x,b=>by cases b<;>simp[toPy,TY,Dm.eqD,Dm.b2i]
 |.str x,b=>by
  cases b with
  |str y=>
   simp only[toPy,TY,Dm.eqD];rw[VA];simp only[beq_iff_eq];constructor
   ·intro h;have h:=congrArg (fun s:Str=>s.cps.toList) h
    simpa using h
   ·rintro rfl;rfl
  |_=>simp[toPy,TY,Dm.eqD]
 |.tup xs,b=>by
  cases b with
  |tup ys=>simp only[toPy,TY,Dm.eqD];exact nu xs ys
  |_=>simp[toPy,TY,Dm.eqD]
 |.lst xs,b=>by
  cases b with
  |lst ys=>simp only[toPy,TY,Dm.eqD];exact nu xs ys
  |_=>simp[toPy,TY,Dm.eqD]
 |.dct ks vs,b=>by cases b<;>simp[toPy,TY,Dm.eqD]
 |.exc C,b=>by cases b<;>simp[toPy,TY,Dm.eqD]
 |.fn C,b=>by cases b<;>simp[toPy,TY,Dm.eqD]
theorem nu:∀a b:List Dm.Dat,Vj (dY a) (dY b)=Dm.pU a b
 |[],b=>by cases b<;>simp[dY,Vj,Dm.pU]
 |x::xs,b=>by
  cases b with
  |nil=>simp[dY,Vj,Dm.pU]
  |cons y ys=>simp only[dY,Vj,Dm.pU];rw[l8 x y,nu xs ys]
end
theorem C7{s:List Nat}(h:(s.all fun c=>decide (c<128))=true):PyData.strOk ⟨s.toArray⟩=true:=by unfold PyData.strOk;rw[Array.all_eq_true'];intro c hc;have h1:=TR.mp h c (by simpa using hc);have h2:c<128:=of_decide_eq_true h1;exact decide_eq_true (by omega)
theorem fX{P:Program}{w:World}{H:Hp}{h:Heap}(ok:HOk P w H h):∀(n:Nat),
  (∀(v:V) (d:Dm.Dat) (u:Value),Rep H v d->RelV v u->Dm.okD n d=true->∃as,Reads h u (toPy d) as/\(toPy d).canLay0=true/\(toPy d).depth<=n) /\
  (∀(vs:List V) (ds:List Dm.Dat) (us:List Value),aH H vs ds->Vals vs us->ds.all (Dm.okD n)=true->∃as,ReadsAll h us (dY ds) as/\Vn (dY ds)=true/\UN (dY ds)<=n):=by
 intro n
 induction n with
 |zero=>
  have one:∀(v:V) (d:Dm.Dat) (u:Value),Rep H v d->RelV v u->Dm.okD 0 d=true->∃as,Reads h u (toPy d) as/\(toPy d).canLay0=true/\(toPy d).depth<=0:=by
   intro v d u r rv k;cases r with
   |non=>cases rv;exact⟨_,.none,rfl,Sz _⟩
   |bl b=>cases rv;exact⟨_,.bool b,rfl,Sz _⟩
   |int i=>obtain⟨t,rfl⟩:=rv;exact⟨_,.int i t,rfl,Sz _⟩
   |str s=>obtain⟨t,rfl⟩:=rv;exact⟨_,.str _ t,C7 k,Sz _⟩
   |tup _ _=>cases k
   |lst _ _=>cases k
   |dct _ _ _=>cases k
   |exc _=>cases k
   |fn _=>cases k
  refine⟨one,fun vs ds=>?_⟩
  induction ds generalizing vs with
  |nil=>intro us r rv _;cases r;cases rv;exact⟨_,.nil,rfl,Sz _⟩
  |cons d ds ih=>
   intro us r rv k;cases r with
   |cons r rs=>
    cases rv with
    |cons q qs=>rw[VG,Td]at k;obtain⟨a1,h1,h2,h3⟩:=one _ _ _ r q k.1;obtain⟨a2,h4,h5,h6⟩:=ih _ _ rs qs k.2;exact⟨_,.cons h1 h4,by simp[dY,Vn,h2,h5],by simp only[dY,UN];omega⟩
 |succ n ih=>
  have one:∀(v:V) (d:Dm.Dat) (u:Value),Rep H v d->RelV v u->Dm.okD (n+1) d=true->∃as,Reads h u (toPy d) as/\(toPy d).canLay0=true/\(toPy d).depth<=n+1:=by
   intro v d u r rv k;cases r with
   |non=>cases rv;exact⟨_,.none,rfl,Ti _⟩
   |bl b=>cases rv;exact⟨_,.bool b,rfl,Ti _⟩
   |int i=>obtain⟨t,rfl⟩:=rv;exact⟨_,.int i t,rfl,Ti _⟩
   |str s=>obtain⟨t,rfl⟩:=rv;exact⟨_,.str _ t,C7 k,Ti _⟩
   |tup q rs=>cases rv;obtain⟨z,its,vr,ob,e,hc,m,hd⟩:=ok _ _ q;obtain⟨as,h1,h2,h3⟩:=ih.2 _ _ _ rs vr k;exact⟨_,.tuple e hc hd h1,h2,by simp only[toPy,PyData.depth];omega⟩
   |lst q rs=>cases rv;obtain⟨z,its,m,vr,e⟩:=q.ok ok;obtain⟨as,h1,h2,h3⟩:=ih.2 _ _ _ rs vr k;exact⟨_,.list e rfl rfl h1,h2,by simp only[toPy,PyData.depth];omega⟩
   |dct _ _ _=>cases k
   |exc _=>cases k
   |fn _=>cases k
  refine⟨one,fun vs ds=>?_⟩
  induction ds generalizing vs with
  |nil=>intro us r rv _;cases r;cases rv;exact⟨_,.nil,rfl,Ti _⟩
  |cons d ds ih=>
   intro us r rv k;cases r with
   |cons r rs=>
    cases rv with
    |cons q qs=>rw[VG,Td]at k;obtain⟨a1,h1,h2,h3⟩:=one _ _ _ r q k.1;obtain⟨a2,h4,h5,h6⟩:=ih _ _ rs qs k.2;exact⟨_,.cons h1 h4,by simp[dY,Vn,h2,h5],by simp only[dY,UN];omega⟩
theorem nq.full{H0 H:Hp}(s:av H0 H){v:V}{d:Dm.Dat}(r:nq H0 H v d):Rep H v d:=by
 rcases r with r | ⟨a,rfl,w⟩
 ·exact r.mono s
 ·cases d with
  |lst ds=>obtain⟨xs,q,rs⟩:=w;exact .lst (.inl q) (rs.mono s)
  |dct ks ds=>obtain⟨kvs,q,e,rs⟩:=w;exact .dct q e (rs.mono s)
  |_=>exact SQ w
noncomputable def G8(neg:Bool):R2:=fun x y H Q=>∃dx dy,Rep H x dx/\Rep H y dy/\Dm.okD 8 dx=true/\Dm.okD 8 dy=true/\Q (.bl (if neg then !Dm.eqD dx dy else Dm.eqD dx dy)) H
section
variable{X:Cx}
theorem C8{k:Nat}(hr:b5 k X.A):OpR X (compareOp .Eq) (G8 false):=by intro pins s σ H x y v u Q I rx ry h;obtain⟨dx,dy,r1,r2,k1,k2,q⟩:=h;obtain⟨as,h1,h2,h3⟩:=(fX I.hok 8).1 x dx v r1 rx k1;obtain⟨bs,h4,h5,h6⟩:=(fX I.hok 8).1 y dy u r2 ry k2;have hu:=hr.units;refine PySem.SeqAt.compareEq_reads h1 h4 h2 h5 (by omega) ?_;rw[l8];exact⟨.bl (Dm.eqD dx dy),H,I,rfl,q⟩
theorem C9{k:Nat}(hr:b5 k X.A):OpR X (compareOp .NotEq) (G8 true):=by intro pins s σ H x y v u Q I rx ry h;obtain⟨dx,dy,r1,r2,k1,k2,q⟩:=h;obtain⟨as,h1,h2,h3⟩:=(fX I.hok 8).1 x dx v r1 rx k1;obtain⟨bs,h4,h5,h6⟩:=(fX I.hok 8).1 y dy u r2 ry k2;have hu:=hr.units;refine PySem.SeqAt.compareNe_reads h1 h4 h2 h5 (by omega) ?_;rw[l8];exact⟨.bl (!Dm.eqD dx dy),H,I,rfl,q⟩
noncomputable def OS(neg:Bool):R2:=fun x y H Q=>∃dx ds,Rep H x dx/\(Rep H y (.lst ds)\/Rep H y (.tup ds))/\Dm.okD 8 dx=true/\ds.all (Dm.okD 7)=true/\Q (.bl (if neg then !Dm.inD dx ds else Dm.inD dx ds)) H
theorem p9(x:Dm.Dat):∀ds:List Dm.Dat,((dY ds).any fun y=>TY y (toPy x))=Dm.inD x ds
 |[]=>rfl
 |d::ds=>by have:=p9 x ds;unfold Dm.inD at this ⊢;simp only[dY,Ui,l8];rw[this]
theorem BA{k:Nat}(hr:b5 k X.A):OpR X (compareOp .NotIn) (OS true):=by
 intro pins s σ H x y v u Q I rx ry h;obtain⟨dx,ds,r1,r2,k1,k2,q⟩:=h;obtain⟨as,h1,h2,h3⟩:=(fX I.hok 8).1 x dx v r1 rx k1;have hu:=hr.units;rcases r2 with r2 | r2
 ·obtain⟨bs,h4,h5,h6⟩:=(fX I.hok 8).1 y (.lst ds) u r2 ry k2;have h6:UN (dY ds)+1<=8:=h6;refine PySem.SeqAt.notIn_list_reads h4 h1 h5 h2 (by omega) ?_;rw[p9];exact⟨.bl (!Dm.inD dx ds),H,I,rfl,q⟩
 ·obtain⟨bs,h4,h5,h6⟩:=(fX I.hok 8).1 y (.tup ds) u r2 ry k2;have h6:UN (dY ds)+1<=8:=h6;refine PySem.SeqAt.notIn_tuple_reads h4 h1 h5 h2 (by omega) ?_;rw[p9];exact⟨.bl (!Dm.inD dx ds),H,I,rfl,q⟩
end
theorem aG{H0 H:Hp}{v:V}{i:Int}(r:nq H0 H v (.int i)):v=.int i:=by
 rcases r with r | ⟨a,_,w⟩
 ·exact Rep.isInt r
 ·exact SQ w
theorem Ae{H0 H:Hp}{v:V}{b:Bool}(r:nq H0 H v (.bl b)):v=.bl b:=by
 rcases r with r | ⟨a,_,w⟩
 ·exact Rep.pX r
 ·exact SQ w
theorem b8{H0 H:Hp}(s:av H0 H){v:V}{ds:List Dm.Dat}(r:nq H0 H v (.lst ds)):∃a xs,v=.ref a/\Rd H a (.lst xs)/\aH H0 xs ds:=by
 rcases r with r | ⟨a,e,xs,q,rs⟩
 ·cases r with
  |lst q rs=>exact⟨_,_,rfl,av.rd s q,rs⟩
 ·exact⟨a,xs,e,.inl q,rs⟩
theorem gM{H0 H:Hp}(s:av H0 H){v:V}{ds:List Dm.Dat}(r:nq H0 H v (.tup ds)):∃a xs,v=.ref a/\H a=some (.tup xs)/\aH H0 xs ds:=by
 rcases r with r | ⟨a,_,w⟩
 ·cases r with
  |tup q rs=>exact⟨_,_,rfl,s _ _ q,rs⟩
 ·exact SQ w
theorem LG:OpD (rI0 fun i j=>.int (i-j)) Dm.iF:=by
 intro H0 H x y dx dy z Q s rx ry e k;unfold Dm.iF at e;split at e
 ·cases e;cases aG rx;cases aG ry;exact⟨_,_,rfl,rfl,k _ H0 H (aQ.refl s) (.int _)⟩
 ·cases e
theorem Jz:OpD (rI0 fun i j=>.bl (decide (i<j))) Dm.gLt:=by
 intro H0 H x y dx dy z Q s rx ry e k;unfold Dm.gLt at e;split at e
 ·cases e;cases aG rx;cases aG ry;exact⟨_,_,rfl,rfl,k _ H0 H (aQ.refl s) (.bl _)⟩
 ·cases e
theorem C_:OpD (rI0 fun i j=>.bl (decide (i<=j))) Dm.gLe:=by
 intro H0 H x y dx dy z Q s rx ry e k;unfold Dm.gLe at e;split at e
 ·cases e;cases aG rx;cases aG ry;exact⟨_,_,rfl,rfl,k _ H0 H (aQ.refl s) (.bl _)⟩
 ·cases e
theorem OT:OpD (rI0 fun i j=>.bl (decide (j<i))) Dm.gGt:=by
 intro H0 H x y dx dy z Q s rx ry e k;unfold Dm.gGt at e;split at e
 ·cases e;cases aG rx;cases aG ry;exact⟨_,_,rfl,rfl,k _ H0 H (aQ.refl s) (.bl _)⟩
 ·cases e
theorem OU:OpD (rI0 fun i j=>.bl (decide (j<=i))) Dm.gGe:=by
 intro H0 H x y dx dy z Q s rx ry e k;unfold Dm.gGe at e;split at e
 ·cases e;cases aG rx;cases aG ry;exact⟨_,_,rfl,rfl,k _ H0 H (aQ.refl s) (.bl _)⟩
 ·cases e
theorem LH:OpD (rI (fun _ j=>0<j) fun i j=>.int (i % j)) Dm.j3:=by
 intro H0 H x y dx dy z Q s rx ry e k;unfold Dm.j3 at e;split at e
 ·split at e
  ·rename_i hj;cases e;cases aG rx;cases aG ry;exact⟨_,_,rfl,rfl,hj,k _ H0 H (aQ.refl s) (.int _)⟩
  ·cases e
 ·cases e
theorem LJ:OpD (rI Oj fun i j=>.int (i ^ j.toNat)) Dm.iR:=by
 intro H0 H x y dx dy z Q s rx ry e k;unfold Dm.iR at e;split at e
 ·split at e
  ·rename_i hj;cases e;cases aG rx;cases aG ry;exact⟨_,_,rfl,rfl,⟨hj.1,hj.2.1,Nat.lt_trans hj.2.2 (by decide)⟩,k _ H0 H (aQ.refl s) (.int _)⟩
  ·cases e
 ·cases e
section
variable{X:Cx}
noncomputable def JA(i j:Int):Prop:=0<j/\j<Dm.jM
theorem Dc:OpR X (binaryOp .FloorDiv) (rI JA fun i j=>.int (i / j)):=opI fun i j _ _ _ _ _ hc q=>by
 have h:j.natAbs.log2<9000:=by
  have h1:j.natAbs<2 ^ 200:=by
   have:=hc.2;unfold Dm.jM at this;have h2:=hc.1;have e:(2:Nat) ^ 200=1606938044258990275541962092341162602522202993782792835301376:=by decide +kernel
   omega
  have h3:j.natAbs≠0:=by have:=hc.1;omega
  have:=(Nat.log2_lt h3).mpr h1;omega
 have e:i.fdiv j=i / j:=Int.fdiv_eq_ediv_of_nonneg i (Int.le_of_lt hc.1);rw[<- e]at q;exact floordiv_int (Int.ne_of_gt hc.1) q (.inl (PyProof.noPylong_of_log2 h))
end
theorem LK:OpD (rI JA fun i j=>.int (i / j)) Dm.yM:=by
 intro H0 H x y dx dy z Q s rx ry e k;unfold Dm.yM at e;split at e
 ·split at e
  ·rename_i hj;cases e;cases aG rx;cases aG ry;exact⟨_,_,rfl,rfl,hj,k _ H0 H (aQ.refl s) (.int _)⟩
  ·cases e
 ·cases e
noncomputable def Dd:R2:=fun x y H Q=>∃l b xs zs,x=.ref l/\y=.ref b/\Rd H l (.lst xs)/\Rd H b (.lst zs)/\xs.length+zs.length<=sizeLine/\∀p,H p=none->Q (.ref p) (upd H p (.lst (xs++zs)))
noncomputable def De:R2:=fun x y H Q=>∃l k xs,x=.ref l/\y=.int k/\Rd H l (.lst xs)/\-(2 ^ 63)<=k/\k<2 ^ 63/\xs.length*k.toNat<=sizeLine /\
 ∀p,H p=none->Q (.ref p) (upd H p (.lst (Dp k.toNat xs).flatten))
section
variable{X:Cx}
theorem G9:OpR X (binaryOp .Add) Dd:=by
 intro pins s σ H x y v u Q I rx ry h;obtain⟨l,b,xs,zs,rfl,rfl,hH,hB,hz,q⟩:=h;cases rx;cases ry;obtain⟨z,its,n,r,e⟩:=hH.ok I.hok;obtain⟨z2,its2,n2,r2,e2⟩:=hB.ok I.hok;have hl:=r.length;have hl2:=r2.length;refine PySem.P.add_list e e2 ?_ (by rw[SE,SE];omega);have ea:its.toArray++its2.toArray=(its++its2).toArray:=by simp
 rw[ea];exact⟨.ref _,_,I.Lr (t':=s.toks) (r.append r2) (by rw[SK];omega),rfl,q _ I.fresh⟩
theorem G_:OpR X (binaryOp .Mult) De:=by
 intro pins s σ H x y v u Q I rx ry h;obtain⟨l,k,xs,rfl,rfl,hH,h1,h2,hz,q⟩:=h;cases rx;obtain⟨t,rfl⟩:=ry;obtain⟨z,its,n,r,e⟩:=hH.ok I.hok;have hl:=r.length;have hlen:its.toArray.size*k.toNat<=sizeLine:=by rw[SE,<- hl];exact hz
 have hcap:¬its.toArray.size*k.toNat>(2 ^ 63-1) / 8:=by
  have:(sizeLine:Nat)<=(2 ^ 63-1) / 8:=by decide
  omega
 have hfit:¬(!Builtin.List.listFitsIndex k)=true:=by rw[fitsIndex_both h1 h2];exact Tf
 have OV:¬Uz (its.toArray.size*k.toNat)=true:=by rw[vW hlen];exact Tf
 have hnew:VP (fun x1 x2=>x1++x2) #[] (Dp (if its.toArray.isEmpty=true then 0 else k.toNat) its.toArray)=(Dp k.toNat its).flatten.toArray:=by
  have f0:∀m:Nat,VP (fun x1 x2=>x1++x2) #[] (Dp m its.toArray)=(Dp m its).flatten.toArray:=fun m=>by have:=foldl_rep its m [];rw[Ut]at this;exact this
  rw[f0];cases its with
  |nil=>simp
  |cons a r'=>rw[if_neg (by simp)]
 refine wpAny_binaryOp_repeat_ref (T := "list") (U := "int") (by decide) ⟨_,e,rfl⟩ (fun s'=>typeIs_int s' k t) noFill_list_mul F.fills_int_mul F.slot_int_rmul repeat_list F.slot_int_index.lookup
  (call_meets F.slot_int_rmul (typeIs_int s k t) F.entry_int_rmul (F.args_int_rmul_2 _ _) (int___rmul___int_list k t l its.toArray n)
   ⟨e,rfl,⟨_,e,rfl⟩,call_meets F.slot_list_mul ⟨_,e,rfl⟩ F.entry_list_mul (F.args_list_mul_2 _ _) (AutoListH.list___mul___list_int_3 l its.toArray n k t hfit hcap OV) ⟨e,?_⟩⟩)
 rw[hnew];exact⟨.ref _,_,I.Lr (t':=s.toks) (r.rep k.toNat) (by rw[len_rep,Nat.mul_comm];exact hz),rfl,q _ I.fresh⟩
theorem Hg:OpR X (binaryOp .Add) (fun x y H Q=>rI0 (fun i j=>.int (i+j)) x y H Q\/Dd x y H Q):=La.or G9
theorem Hh:OpR X (binaryOp .Mult) (fun x y H Q=>rI CC (fun i j=>.int (i*j)) x y H Q\/De x y H Q):=Lc.or G_
end
theorem LL:OpD (fun x y H Q=>rI0 (fun i j=>.int (i+j)) x y H Q\/Dd x y H Q) Dm.dW:=by
 intro H0 H x y dx dy z Q s rx ry e k;unfold Dm.dW at e;split at e
 ·cases e;cases aG rx;cases aG ry;exact .inl ⟨_,_,rfl,rfl,k _ H0 H (aQ.refl s) (.int _)⟩
 ·split at e
  ·rename_i hz;cases e;obtain⟨a,us,rfl,qa,ra⟩:=b8 s rx;obtain⟨b,ws,rfl,qb,rb⟩:=b8 s ry;refine .inr ⟨a,b,us,ws,rfl,rfl,qa,qb,by rw[ra.length,rb.length];exact lZ hz,fun p hp=>?_⟩;exact k _ _ _ (aQ.oZ s hp) ⟨p,rfl,hp,s.free hp,_,au,ra.append rb⟩
  ·cases e
 ·cases e
theorem LM:OpD (fun x y H Q=>rI CC (fun i j=>.int (i*j)) x y H Q\/De x y H Q) Dm.j0:=by
 intro H0 H x y dx dy z Q s rx ry e k;unfold Dm.j0 at e;split at e
 ·split at e
  ·rename_i hj;cases e;cases aG rx;cases aG ry;exact .inl ⟨_,_,rfl,rfl,hj,k _ H0 H (aQ.refl s) (.int _)⟩
  ·cases e
 ·split at e
  ·rename_i hz;cases e;cases aG ry;obtain⟨a,us,rfl,qa,ra⟩:=b8 s rx;obtain⟨h1,h2,h3⟩:=hz;unfold Dm.BIG at h1 h2;refine .inr ⟨a,_,us,rfl,rfl,qa,by omega,by omega,by rw[ra.length];exact lZ h3,fun p hp=>?_⟩;exact k _ _ _ (aQ.oZ s hp) ⟨p,rfl,hp,s.free hp,_,au,ra.rep _⟩
  ·cases e
 ·cases e
theorem JB:OpD (G8 false) Dm.gEq:=by
 intro H0 H x y dx dy z Q s rx ry e k;unfold Dm.gEq at e;split at e
 ·rename_i hk;rw[Td]at hk;cases e;exact⟨dx,dy,rx.full s,ry.full s,hk.1,hk.2,k _ H0 H (aQ.refl s) (.bl _)⟩
 ·cases e
theorem JC:OpD (G8 true) Dm.gNe:=by
 intro H0 H x y dx dy z Q s rx ry e k;unfold Dm.gNe at e;split at e
 ·rename_i hk;rw[Td]at hk;cases e;exact⟨dx,dy,rx.full s,ry.full s,hk.1,hk.2,k _ H0 H (aQ.refl s) (.bl _)⟩
 ·cases e
theorem Df:OpD (OS true) Dm.nk:=by
 intro H0 H x y dx dy z Q s rx ry e k;unfold Dm.nk at e;split at e
 ·split at e
  ·rename_i hk;rw[Td]at hk;cases e;exact⟨dx,_,rx.full s,.inl (ry.full s),hk.1,hk.2,k _ H0 H (aQ.refl s) (.bl _)⟩
  ·cases e
 ·split at e
  ·rename_i hk;rw[Td]at hk;cases e;exact⟨dx,_,rx.full s,.inr (ry.full s),hk.1,hk.2,k _ H0 H (aQ.refl s) (.bl _)⟩
  ·cases e
 ·cases e
theorem Af{H0:Hp}{xs:List V}{ds:List Dm.Dat}{i:Int}{d:Dm.Dat}(rs:aH H0 xs ds)(e:Dm.atI ds i=some d):∃v,L2.atI xs i=some v/\Rep H0 v d:=by
 unfold Dm.atI at e;cases q:Dm.ixN ds.length i with
 |none=>rw[q]at e;cases e
 |some j=>rw[q]at e;obtain⟨v,hv,r⟩:=rs.get (i:=j) e;refine⟨v,?_,r⟩;unfold L2.atI;rw[rs.length];have q':L2.ixN ds.length i=some j:=q;rw[q'];exact hv
theorem OW{K:gV}:OpD (fun x y H Q=>Lm K x y H Q\/Oo K x y H Q) Dm.gIx:=by
 intro H0 H x y dx dy z Q s rx ry e k;unfold Dm.gIx at e;split at e
 ·rename_i ds i;cases q:Dm.atI ds i with
  |none=>rw[q]at e;cases e
  |some d=>rw[q]at e;cases e;cases aG ry;obtain⟨a,us,rfl,qa,ra⟩:=b8 s rx;obtain⟨v,hv,rv⟩:=Af ra q;exact .inl ⟨a,us,i,v,rfl,rfl,.inl qa,hv,k _ H0 H (aQ.refl s) rv⟩
 ·rename_i ds i;cases q:Dm.atI ds i with
  |none=>rw[q]at e;cases e
  |some d=>rw[q]at e;cases e;cases aG ry;obtain⟨a,us,rfl,qa,ra⟩:=gM s rx;obtain⟨v,hv,rv⟩:=Af ra q;exact .inr ⟨a,us,i,v,rfl,rfl,.inl (.inl qa),hv,k _ H0 H (aQ.refl s) rv⟩
 ·cases e
theorem LN{K:gV}:CallD (fun xs H Q=>∃p ys,xs=[.ref p]/\(SqL K H p ys\/SqT K H p ys)/\Q (.int ys.length) H) Dm.iH:=by
 intro H0 H vs ds z Q s rs e k;unfold Dm.iH at e;split at e
 ·cases e;cases rs with
  |cons r rr=>cases rr;obtain⟨a,us,rfl,qa,ra⟩:=b8 s r;exact⟨a,us,rfl,.inl (.inl qa),k _ H0 H (aQ.refl s) (by rw[ra.length];exact .int _)⟩
 ·cases e;cases rs with
  |cons r rr=>cases rr;obtain⟨a,us,rfl,qa,ra⟩:=gM s r;exact⟨a,us,rfl,.inr (.inl (.inl qa)),k _ H0 H (aQ.refl s) (by rw[ra.length];exact .int _)⟩
 ·cases e
theorem Hi:CallD (fun xs H Q=>∃i j,xs=[.int i,.int j]/\Q (.int (if j<i then j else i)) H) Dm.pV:=by
 intro H0 H vs ds z Q s rs e k;unfold Dm.pV at e;split at e
 ·cases e;cases rs with
  |cons r rr=>
   cases rr with
   |cons r' rr=>cases rr;cases aG r;cases aG r';exact⟨_,_,rfl,k _ H0 H (aQ.refl s) (.int _)⟩
 ·cases e
theorem Hj:CallD (fun xs H Q=>∃i j,xs=[.int i,.int j]/\Q (.int (if j>i then j else i)) H) Dm.tP:=by
 intro H0 H vs ds z Q s rs e k;unfold Dm.tP at e;split at e
 ·cases e;cases rs with
  |cons r rr=>
   cases rr with
   |cons r' rr=>cases rr;cases aG r;cases aG r';exact⟨_,_,rfl,k _ H0 H (aQ.refl s) (.int _)⟩
 ·cases e
theorem Hl{K:gV}:CallD (fun xs H Q=>∃p ys,xs=[.ref p]/\(SqL K H p ys\/SqT K H p ys)/\∀l,H l=none->Q (.ref l) (upd H l (.lst ys))) Dm.v9:=by
 intro H0 H vs ds z Q s rs e k;unfold Dm.v9 at e;split at e
 ·cases e;cases rs with
  |cons r rr=>cases rr;obtain⟨a,us,rfl,qa,ra⟩:=b8 s r;exact⟨a,us,rfl,.inl (.inl qa),fun p hp=>k _ _ _ (aQ.oZ s hp) ⟨p,rfl,hp,s.free hp,_,au,ra⟩⟩
 ·cases e;cases rs with
  |cons r rr=>cases rr;obtain⟨a,us,rfl,qa,ra⟩:=gM s r;exact⟨a,us,rfl,.inr (.inl (.inl qa)),fun p hp=>k _ _ _ (aQ.oZ s hp) ⟨p,rfl,hp,s.free hp,_,au,ra⟩⟩
 ·cases e
theorem Dg{K:gV}:CallD (fun xs H Q=>∃p ys,xs=[.ref p]/\((SqL K H p ys/\∀l,H l=none->Q (.ref l) (upd H l (.tup ys)))\/(SqT K H p ys/\Q (.ref p) H))) Dm.j4:=by
 intro H0 H vs ds z Q s rs e k;unfold Dm.j4 at e;split at e
 ·cases e;cases rs with
  |cons r rr=>cases rr;obtain⟨a,us,rfl,qa,ra⟩:=b8 s r;refine⟨a,us,rfl,.inl ⟨.inl qa,fun p hp=>?_⟩⟩;have g:=aQ.Bv (o:=HO.tup us) s hp;exact k _ _ _ g (.tup au (ra.mono g.s0))
 ·cases e;cases rs with
  |cons r rr=>
   cases rr;rcases r with r | ⟨a,_,w⟩
   ·cases r with
    |tup q rs=>exact⟨_,_,rfl,.inr ⟨.inl (.inl (s _ _ q)),k _ H0 H (aQ.refl s) (.tup q rs)⟩⟩
   ·exact SQ w
 ·cases e
noncomputable abbrev DS(X:Cx)(st:Stmt)(f:Dm.FS):Prop:=PS X st (tDS f)
noncomputable abbrev DSs(X:Cx)(st:List Stmt)(f:Dm.FS):Prop:=PSs X st (tDS f)
noncomputable abbrev DI(X:Cx)(tg it:Expr)(f:Dm.FI):Prop:=PI X tg it (tDI f)
theorem PI.weak{X:Cx}{tg it:Expr}{t t':TI}(h:PI X tg it t)(k:∀σ H R,t' σ H R->t σ H R):PI X tg it t':=fun pins s σ H R I q=>h pins s σ H R I (k σ H R q)
section
variable{X:Cx}{a b c e:Expr}{fa fb fc f:Dm.FE}{pos:Pos}
theorem d_v(i:Nat){x:Str}(hN:X.N[i]?=some x:=by rfl)(hv:Vis X.env.scope x:=by trivial)(hd:(x == ("__debug__" : Str))=false:=by decide)
  (hcd:(x == ("__classdict__" : Str))=false:=by decide):DE X (.Name x pos) (Dm.eV i):=PE.weak (fG hN hv hd hcd) fun _ _ _=>Oz
theorem d_i{i:Int}{j}:DE X (.Constant (.int i) j pos) (Dm.eC (.int i)):=PE.weak KU fun _ _ _=>lY fun _=>.int i
theorem d_b{v:Bool}{j}:DE X (.Constant (.bool v) j pos) (Dm.eC (.bl v)):=PE.weak Oa fun _ _ _=>lY fun _=>.bl v
theorem d_n{j}:DE X (.Constant .none j pos) (Dm.eC .non):=PE.weak KW fun _ _ _=>lY fun _=>.non
theorem d_s{s:List Nat}{x:Str}{j}(hx:x=⟨s.toArray⟩:=by rfl):DE X (.Constant (.str x) j pos) (Dm.eC (.str s)):=by subst hx;exact PE.weak KY fun _ _ _=>lY fun _=>.str s
theorem d_g{x:Str}{i:Int}{t:Tok}(hg:Gl X x)(hm:X.mg x=some (.int i t))(hd:(x == ("__debug__" : Str))=false:=by decide):DE X (.Name x pos) (Dm.eC (.int i)):=
 PE.weak (uC (v:=.int i) hg hm ⟨t,rfl⟩ hd) fun _ _ _=>lY fun _=>.int i
theorem wg{op:Operator}{r:R2}{g:Dm.Dat->Dm.Dat->Option Dm.RV}(o:OpR X (binaryOp op) r)(od:OpD r g)(ha:DE X a fa)(hb:DE X b fb):DE X (.BinOp a op b pos) (Dm.e2 g fa fb):=
 PE.weak (Oh o ha hb) fun _ _ _=>yP od
theorem cK(ha:DE X a fa)(hb:DE X b fb):DE X (.BinOp a .Add b pos) (Dm.e2 Dm.dW fa fb):=wg Hg LL ha hb
theorem iX(ha:DE X a fa)(hb:DE X b fb):DE X (.BinOp a .Sub b pos) (Dm.e2 Dm.iF fa fb):=wg Lb LG ha hb
theorem jP(ha:DE X a fa)(hb:DE X b fb):DE X (.BinOp a .Mult b pos) (Dm.e2 Dm.j0 fa fb):=wg Hh LM ha hb
theorem JD(ha:DE X a fa)(hb:DE X b fb):DE X (.BinOp a .FloorDiv b pos) (Dm.e2 Dm.yM fa fb):=wg Dc LK ha hb
theorem jQ(ha:DE X a fa)(hb:DE X b fb):DE X (.BinOp a .Mod b pos) (Dm.e2 Dm.j3 fa fb):=wg Ld LH ha hb
theorem iY(ha:DE X a fa)(hb:DE X b fb):DE X (.BinOp a .Pow b pos) (Dm.e2 Dm.iR fa fb):=wg Le LJ ha hb
theorem tR{op:CmpOp}{r:R2}{g:Dm.Dat->Dm.Dat->Option Dm.RV}(o:OpR X (compareOp op) r)(od:OpD r g)(ha:DE X a fa)(hb:DE X b fb)(hm:behindInMarks op b=false):DE X (.Compare a [op] [b] pos) (Dm.e2 g fa fb):=
 PE.weak (GL o ha hb hm) fun _ _ _=>yP od
theorem p_{op:CmpOp}{r:R2}{g:Dm.Dat->Dm.Dat->Option Dm.RV}(o:OpR X (compareOp op) r)(od:OpD r g)(ha:DE X a fa)(hb:DE X b fb)(hm:behindInMarks op b=false):DT X (.Compare a [op] [b] pos) (Dm.tV (Dm.e2 g fa fb)):=
 PT.weak (GN o ha hb hm) fun σ H Q h=>yP od (uO h)
theorem OX{k:Nat}(hr:b5 k X.A)(ha:DE X a fa)(hb:DE X b fb):DE X (.Compare a [.Eq] [b] pos) (Dm.e2 Dm.gEq fa fb):=tR (C8 hr) JB ha hb (fJ _)
theorem Rw{k:Nat}(hr:b5 k X.A)(ha:DE X a fa)(hb:DE X b fb):DE X (.Compare a [.NotEq] [b] pos) (Dm.e2 Dm.gNe fa fb):=tR (C9 hr) JC ha hb (fJ _)
theorem Rx(ha:DE X a fa)(hb:DE X b fb):DE X (.Compare a [.Lt] [b] pos) (Dm.e2 Dm.gLt fa fb):=tR Jr Jz ha hb (fJ _)
theorem Ry(ha:DE X a fa)(hb:DE X b fb):DE X (.Compare a [.LtE] [b] pos) (Dm.e2 Dm.gLe fa fb):=tR CD C_ ha hb (fJ _)
theorem OY{k:Nat}(hr:b5 k X.A)(ha:DE X a fa)(hb:DE X b fb)(hm:behindInMarks .NotIn b=false:=by rfl):DE X (.Compare a [.NotIn] [b] pos) (Dm.e2 Dm.nk fa fb):=tR (BA hr) Df ha hb hm
theorem o6{k:Nat}(hr:b5 k X.A)(ha:DE X a fa)(hb:DE X b fb):DT X (.Compare a [.Eq] [b] pos) (Dm.tV (Dm.e2 Dm.gEq fa fb)):=p_ (C8 hr) JB ha hb (fJ _)
theorem sO{k:Nat}(hr:b5 k X.A)(ha:DE X a fa)(hb:DE X b fb):DT X (.Compare a [.NotEq] [b] pos) (Dm.tV (Dm.e2 Dm.gNe fa fb)):=p_ (C9 hr) JC ha hb (fJ _)
theorem OZ(ha:DE X a fa)(hb:DE X b fb):DT X (.Compare a [.Lt] [b] pos) (Dm.tV (Dm.e2 Dm.gLt fa fb)):=p_ Jr Jz ha hb (fJ _)
theorem Dh(ha:DE X a fa)(hb:DE X b fb):DT X (.Compare a [.Gt] [b] pos) (Dm.tV (Dm.e2 Dm.gGt fa fb)):=p_ Ol OT ha hb (fJ _)
theorem O0(ha:DE X a fa)(hb:DE X b fb):DT X (.Compare a [.GtE] [b] pos) (Dm.tV (Dm.e2 Dm.gGe fa fb)):=p_ Om OU ha hb (fJ _)
theorem bh(ha:DE X a fa)(hb:DE X b fb)(hs:uI b:=by intro _ _;rfl):DE X (.Subscript a b pos) (Dm.e2 Dm.gIx fa fb):=PE.weak (Jt (z8.or Ln) ha hb hs) fun _ _ _=>yP OW
theorem af:DA X [] []:=PA.weak gS fun _ _ _=>OA
theorem aa{es:List Expr}{fs:List Dm.FE}(h:DE X e f)(r:DA X es fs)(hs:starEach (e::es) X.env=(false,eval e X.env)::starEach es X.env:=by rfl):DA X (e::es) (f::fs):=PA.weak (dX h r hs) fun _ _ _=>Lz
theorem bF{es:List Expr}{fs:List Dm.FE}{x1}(h:DA X es fs):DE X (.Tuple es x1 pos) (Dm.b7 fs):=PE.weak (CJ h) fun _ _ _=>OB
theorem bg{es:List Expr}{fs:List Dm.FE}(h:DA X es fs):DE X (.List es pos) (Dm.bP fs):=PE.weak (yG h) fun _ _ _=>OC
theorem BB{es:List Expr}{fs:List Dm.FE}{r:List V->Hp->VK->Prop}{g:List Dm.Dat->Option Dm.RV}{x:Str}{id:String}{p:Pos}(hc:fm X (.builtin id) r)(cd:CallD r g)(hv:bootBuiltins x=some (.builtin id))(hg:Gl X x)(hm:X.mg x=none)(ha:DA X (e::es) fs)
  (hn:x ≠ "__name__" := by decide) (hdb:(x == ("__debug__" : Str))=false:=by decide) (he:starEach (e::es) X.env=(false,eval e X.env)::starEach es X.env:=by rfl) (hpl:(backTo pos (starEach es X.env)).any (·.1)=false:=by rfl) :
  DE X (.Call (.Name x p) (e::es) [] pos) (Dm.eB g fs):=PE.weak (iP hc hg hm hv ha hn hdb he hpl) fun _ _ _=>G3 cd
theorem Ho{es:List Expr}{fs:List Dm.FE}{r:List V->Hp->VK->Prop}{g:List Dm.Dat->Option Dm.RV}{x:Str}{T:String}{p:Pos}(hc:fm X (.type T) r)(cd:CallD r g)(hv:bootBuiltins x=some (.type T))(hg:Gl X x)(hm:X.mg x=none)(ha:DA X (e::es) fs)
  (hn:x ≠ "__name__" := by decide) (hdb:(x == ("__debug__" : Str))=false:=by decide) (he:starEach (e::es) X.env=(false,eval e X.env)::starEach es X.env:=by rfl) (hpl:(backTo pos (starEach es X.env)).any (·.1)=false:=by rfl) :
  DE X (.Call (.Name x p) (e::es) [] pos) (Dm.eB g fs):=PE.weak (Bm hc hg hm hv ha hn hdb he hpl) fun _ _ _=>G3 cd
variable{es:List Expr}{fs:List Dm.FE}{p:Pos}
theorem jR(hg:Gl X "len")(hm:X.mg "len" = none)(ha:DA X [e] fs)(he:starEach [e] X.env=[(false,eval e X.env)]:=by rfl)(hpl:(backTo pos (starEach [] X.env)).any (·.1)=false:=by rfl):DE X (.Call (.Name "len" p) [e] [] pos) (Dm.eB Dm.iH fs):=BB uK LN PySem.boot_len hg hm ha (he:=he) (hpl:=hpl)
theorem yT(hc:X.calm=true)(hg:Gl X "min")(hm:X.mg "min" = none)(ha:DA X [a,b] fs)(he:starEach [a,b] X.env=(false,eval a X.env)::starEach [b] X.env:=by rfl)(hpl:(backTo pos (starEach [b] X.env)).any (·.1)=false:=by rfl):DE X (.Call (.Name "min" p) [a,b] [] pos) (Dm.eB Dm.pV fs):=BB (Bf hc) Hi (by rfl) hg hm ha (he:=he) (hpl:=hpl)
theorem Di(hc:X.calm=true)(hg:Gl X "max")(hm:X.mg "max" = none)(ha:DA X [a,b] fs)(he:starEach [a,b] X.env=(false,eval a X.env)::starEach [b] X.env:=by rfl)(hpl:(backTo pos (starEach [b] X.env)).any (·.1)=false:=by rfl):DE X (.Call (.Name "max" p) [a,b] [] pos) (Dm.eB Dm.tP fs):=BB (Be hc) Hj (by rfl) hg hm ha (he:=he) (hpl:=hpl)
theorem LO(hg:Gl X "list")(hm:X.mg "list" = none)(ha:DA X [e] fs)(he:starEach [e] X.env=[(false,eval e X.env)]:=by rfl)(hpl:(backTo pos (starEach [] X.env)).any (·.1)=false:=by rfl):DE X (.Call (.Name "list" p) [e] [] pos) (Dm.eB Dm.v9 fs):=Ho uL Hl (by rfl) hg hm ha (he:=he) (hpl:=hpl)
theorem uS(hg:Gl X "tuple")(hm:X.mg "tuple" = none)(ha:DA X [e] fs)(he:starEach [e] X.env=[(false,eval e X.env)]:=by rfl)(hpl:(backTo pos (starEach [] X.env)).any (·.1)=false:=by rfl):DE X (.Call (.Name "tuple" p) [e] [] pos) (Dm.eB Dm.j4 fs):=Ho sL Dg (by rfl) hg hm ha (he:=he) (hpl:=hpl)
theorem aB{k:Nat}{F:Addr}{fd:FuncData}{ps:List Str}{g:List Dm.Dat->Option Dm.RV}{x:Str}(G:aV X.prog X.w X.K X.mg X.base CX0 k F fd ps (spD g))(hr:b5 k X.A)(hg:Gl X x)(hm:X.mg x=some (.ref F))(hk:Tw X.K (.ref F)=true)(hb:Binds X.K fd ps [])
  (ha:DA X (e::es) fs) (hdb:(x == ("__debug__" : Str))=false:=by decide) (he:starEach (e::es) X.env=(false,eval e X.env)::starEach es X.env:=by rfl) (hpl:(backTo pos (starEach es X.env)).any (·.1)=false:=by rfl) :
  DE X (.Call (.Name x p) (e::es) [] pos) (Dm.eF g fs):=PE.weak (lU G hr hg hm hk hb .nil (vY (X:=X)) ha hdb he hpl) fun _ _ _=>C2
theorem O3{t:Dm.FT}{q:Expr}(hq:DT X q t)(ha:DE X a fa)(hb:DE X b fb):DE X (.IfExp q a b pos) (Dm.eIf t fa fb):=PE.weak (Cp hq ha hb) fun _ _ _=>Rl
theorem nT{op}(h:DE X a fa):DE X (.BoolOp op [a] pos) fa:=K1 h
theorem qc{rest:List Expr}(ha:DE X a fa)(hb:DE X (.BoolOp .And (b::rest) pos) fb):DE X (.BoolOp .And (a::b::rest) pos) (Dm.lX fa fb):=PE.weak (K2 ha hb) fun _ _ _=>OD
theorem LP{rest:List Expr}(ha:DE X a fa)(hb:DE X (.BoolOp .Or (b::rest) pos) fb):DE X (.BoolOp .Or (a::b::rest) pos) (Dm.eOr fa fb):=PE.weak (Od ha hb) fun _ _ _=>Rm
theorem Ag(ha:DE X a fa):DE X (.UnaryOp .Not a pos) (Dm.sM fa):=PE.weak (K3 ha) fun _ _ _=>OE
noncomputable abbrev DW(X:Cx)(e:Expr)(f:Dm.FT):Prop:=PW X e (tDT f)
theorem PW.weak{t t':TT}(h:PW X e t)(k:∀σ H Q,t' σ H Q->t σ H Q):PW X e t':=fun whole pins s σ H Q I q=>h whole pins s σ H Q I (k σ H Q q)
variable{ta tb:Dm.FT}
theorem LQ(h:DT X a ta):DW X (.BoolOp .And [a] pos) ta:=pw_and1 h
theorem Ah(h:DT X a ta):DW X (.BoolOp .Or [a] pos) ta:=pw_or1 h
theorem w_and{rest:List Expr}(ha:DT X a ta)(hb:DW X (.BoolOp .And (b::rest) pos) tb):DW X (.BoolOp .And (a::b::rest) pos) (Dm.sF ta tb):=PW.weak (pw_and ha hb) fun _ _ _=>LB
theorem w_or{rest:List Expr}(ha:DT X a ta)(hb:DW X (.BoolOp .Or (b::rest) pos) tb):DW X (.BoolOp .Or (a::b::rest) pos) (Dm.tOr ta tb):=PW.weak (pw_or ha hb) fun _ _ _=>OG
theorem t_w(h:DW X a ta):DT X a ta:=h.pt
theorem fY(h:DT X a ta):DT X (.UnaryOp .Not a pos) (Dm.fh ta):=PT.weak (K0 h) fun _ _ _=>LA
theorem fu(h:DE X e f)(he:∀whole,isTrue e X.env whole=(do let v <- whole;standAt e.pos;holding [v] (truthy v)):=by intro _;rfl):DT X e (Dm.tV f):=PT.weak (KZ h he) fun _ _ _=>uO
variable{tg:Expr}
theorem uT(hg:Gl X "range")(hm:X.mg "range" = none)(ha:DA X [a] [fa])(hs:starEach [a] X.env=[(false,eval a X.env)]:=by rfl):DI X tg (.Call (.Name "range" p) [a] [] pos) (Dm.iR1 fa):=
 PI.weak (Bb hg hm ha hs) fun _ _ _=>OO
theorem O4(hg:Gl X "range")(hm:X.mg "range" = none)(ha:DA X [a,b] [fa,fb])(hs:starEach [a,b] X.env=[(false,eval a X.env),(false,eval b X.env)]:=by rfl)(hs2:starEach [b] X.env=[(false,eval b X.env)]:=by rfl):DI X tg (.Call (.Name "range" p) [a,b] [] pos) (Dm.iR2 fa fb):=
 PI.weak (Bc hg hm ha hs hs2) fun _ _ _=>OP
end
section
variable{X:Cx}{st:Stmt}{rest:List Stmt}{fs gs:Dm.FS}{e a b c:Expr}{f fa fb:Dm.FE}{pos:Pos}
theorem cQ:DSs X [] Dm.sNx:=PSs.weak z0 fun _ _ _=>Rn
theorem ak(h1:DS X st fs)(h2:DSs X rest gs):DSs X (st::rest) (Dm.aD fs gs):=PSs.weak (fk h1 h2) fun _ _ _=>OH
theorem ay(h1:DS X st fs):DSs X [st] fs:=uD h1
theorem s_a(i:Nat){x:Str}{pos':Pos}(hN:X.N.Nodup)(he:DE X e f)(hi:X.N[i]?=some x:=by rfl)(hx:Loc X.env.scope x:=by trivial)(hs:swapsWith e (some (.Name x pos')) pos.line X.env=pure false:=by rfl)
  (hf:X.fn x=true\/X.env.scope.names.lookup x=some .local:=by trivial):DS X (.Assign [.Name x pos'] e pos) (Dm.sA i f):=PS.weak (Cv hN hi hx he hs hf) fun _ _ _=>Jy
theorem iZ:PGs X [] (gw []):=GJ
theorem bQ{es:List Expr}{is:List Nat}(i:Nat){x:Str}{px:Pos}(hN:X.N.Nodup)(h2:PGs X es (gw is))(hi:X.N[i]?=some x:=by rfl)(hx:Loc X.env.scope x:=by trivial)
  (hf:X.fn x=true\/X.env.scope.names.lookup x=some .local:=by trivial) (hs:(assignEach (.Name x px::es) X.env).map (·.2)=assign (.Name x px) X.env::(assignEach es X.env).map (·.2):=by rfl):PGs X (.Name x px::es) (gw (i::is)):=Ct (uE hN hi hx hf) h2 hs
theorem s_u{is:List Nat}{es:List Expr}{k:Nat}{tpos:Pos}(hc:X.calm=true)(hg:PGs X es (gw is))(he:DE X e f)(hn:(assignEach es X.env).length=is.length:=by rfl)(hst:(assignEach es X.env).findIdx? (·.1)=none:=by rfl)
  (hs:swapsWithSole [.Tuple es k tpos] e pos.line X.env=pure false:=by rfl) (hw:swappedStores [.Tuple es k tpos] e X.env=pure none:=by rfl) (h1:(assignEach [.Tuple es k tpos] X.env).map (·.2)=[assign (.Tuple es k tpos) X.env]:=by rfl) :
  DS X (.Assign [.Tuple es k tpos] e pos) (Dm.sU is f):=PS.weak (Cu he (yz hc hg hn hst) hs hw h1) fun _ _ _=>C4 rfl
theorem s_e(he:DE X e f)(hs:swapsWith e none pos.line X.env=pure false:=by rfl):DS X (.Expr e pos) (Dm.sE f):=PS.weak (jB he hs) fun _ _ _=>LC
theorem s_r(he:DE X e f):DS X (.Return (some e) pos) (Dm.sR f):=PS.weak (K4 he) fun _ _ _=>OI
theorem eO{t:Dm.FT}{x y:List Stmt}(ht:DT X c t)(ha:DSs X x fs)(hb:DSs X y gs):DS X (.If c x y pos) (Dm.sIf t fs gs):=PS.weak (Cr ht ha hb) fun _ _ _=>OJ
theorem pB:DS X st (fun _=>none):=PS.weak Cs fun _ _ _ ⟨_,_,_,_,z,_⟩=>by cases z
theorem Ai(i:Nat){x:Str}{px ap cp:Pos}(he:DE X e f)(hi:X.N[i]?=some x:=by rfl)(hv:Vis X.env.scope x:=by trivial)(hd:(x == ("__debug__" : Str))=false:=by decide)
  (hcd:(x == ("__classdict__" : Str))=false:=by decide) (hbase:attributeBase (.Name x px) "append" X.env (eval (.Name x px) X.env)=eval (.Name x px) X.env:=by rfl)
  (hfew:((backTo cp (starEach [e] X.env)).all (fun x=>!x.1)&&(backToKw cp (keywordEach [] X.env)).all (fun x=>x.1.isSome)
   && decide ([e].length+([]:List Keyword).length+(if ([]:List Keyword).isEmpty then 0 else 1)<30))=true:=by rfl)
  (hline:(ap.endLine == cp.line)=true:=by rfl) (hs:starEach [e] X.env=(false,eval e X.env)::starEach [] X.env:=by rfl) (hplain:(backTo cp (starEach [] X.env)).any (·.1)=false:=by rfl)
  (hsw:swapsWith (.Call (.Attribute (.Name x px) "append" ap) [e] [] cp) none pos.line X.env=pure false:=by rfl) :
  DS X (.Expr (.Call (.Attribute (.Name x px) "append" ap) [e] [] cp) pos) (Dm.uM i f):=
 PS.weak (jB (vV Uj US UT jC (fG hi hv hd hcd) (aa he af hs) hbase hfew hline hs hplain) hsw) fun _ _ _=>OL
theorem JE(i:Nat){x:Str}{j:Expr}{fj:Dm.FE}{px sp:Pos}(hj:DE X j fj)(he:DE X e f)(hi:X.N[i]?=some x:=by rfl)(hv:Vis X.env.scope x:=by trivial)(hd:(x == ("__debug__" : Str))=false:=by decide)
  (hcd:(x == ("__classdict__" : Str))=false:=by decide) (ha:∀ v,assign (.Subscript (.Name x px) j sp) X.env v=(do
   let ov <- holding [v] (eval (.Name x px) X.env)
   let iv <- holding [v,ov] (eval j X.env)
   standAt sp
   holding [v,ov,iv] (setItem ov iv v)
   release [v,ov,iv] []):=by intro _;rfl)
  (hs:swapsWithSole [.Subscript (.Name x px) j sp] e pos.line X.env=pure false:=by rfl) (hw:swappedStores [.Subscript (.Name x px) j sp] e X.env=pure none:=by rfl) (h1:(assignEach [.Subscript (.Name x px) j sp] X.env).map (·.2)=[assign (.Subscript (.Name x px) j sp) X.env]:=by rfl) :
  DS X (.Assign [.Subscript (.Name x px) j sp] e pos) (Dm.yL i fj f):=PS.weak (Cu he (K9 (fG hi hv hd hcd) hj set_list ha) hs hw h1) fun _ _ _=>OM
theorem LR(n:Nat){t:Dm.FT}{body:List Stmt}(hp:PassesOwn (model X.prog X.w) X.A X.env X.xe)(ht:DT X c t)(hb:DSs X body fs):DS X (.While c body [] pos) (Dm.whD t fs n):=PS.weak (Cy hp ht hb) fun _ _ _=>G4
structure TG'(X:Cx)(tg:Expr)(is:List Nat)(bd:Dm.FB):Prop where
 ex:∃g,PG X tg g/\BD is g bd
theorem g_n(i:Nat){x:Str}{px:Pos}(hN:X.N.Nodup)(hi:X.N[i]?=some x:=by rfl)(hx:Loc X.env.scope x:=by trivial)(hf:X.fn x=true\/X.env.scope.names.lookup x=some .local:=by trivial) :
  TG' X (.Name x px) [i] (Dm.bN i):=⟨⟨_,uE hN hi hx hf,Ab i⟩⟩
theorem g_t{is:List Nat}{es:List Expr}{k:Nat}{tpos:Pos}(hc:X.calm=true)(hg:PGs X es (gw is))(hn:(assignEach es X.env).length=is.length:=by rfl)(hst:(assignEach es X.env).findIdx? (·.1)=none:=by rfl):TG' X (.Tuple es k tpos) is (Dm.bT is):=
 ⟨⟨_,yz hc hg hn hst,C5 is rfl⟩⟩
theorem i0{tg it:Expr}{fi:Dm.FI}{is:List Nat}{bd:Dm.FB}{body:List Stmt}(hp:PassesOwn (model X.prog X.w) X.A X.env X.xe)(hc:X.calm=true)(hi:DI X tg it fi)(hg:TG' X tg is bd)(hb:DSs X body fs)
  (hs:∀x,foldedSetIterable it X.env x=pure x:=by intro _;rfl):DS X (.For tg it body [] pos) (Dm.jL fi bd fs):=by
 obtain⟨g,h1,h2⟩:=hg.ex;exact PS.weak (yE hp hc hi h1 hb hs) fun _ _ _=>ON h2
end
noncomputable def tyName:Dm.Dat->String
 |.non => "NoneType"
 |.bl _ => "bool"
 |.int _ => "int"
 |.str _ => "str"
 |.tup _ => "tuple"
 |.lst _ => "list"
 |.dct _ _ => "dict"
 |.exc _ => "dict"
 |.fn _ => "dict"
noncomputable def BC(T:String)(p:Dm.Dat->Bool):Prop:=∀(K:gV) (d:Dm.Dat),SO K (.type (tyName d)) (.type T)=some (p d)
theorem Hq:BC "int" Dm.isI:=fun K d=>by cases d<;>rfl
theorem Dj:BC "bool" Dm.isB:=fun K d=>by cases d<;>rfl
theorem Dl:BC "list" Dm.isL:=fun K d=>by cases d<;>rfl
theorem kit_tuple:BC "tuple" Dm.isT:=fun K d=>by cases d<;>rfl
theorem Dq{K:gV}{H:Hp}{v:V}{d:Dm.Dat}(r:Rep H v d)(nx:∀C,d≠.exc C/\d≠.fn C):lS K H v (.type (tyName d)):=by
 cases r with
 |non=>exact .non
 |bl b=>exact .bl b
 |int i=>exact .int i
 |str s=>exact .str _
 |tup q _=>exact .tup q
 |lst q _=>
  rcases q with q | ⟨o,q⟩
  ·exact .lst q
  ·exact .frz q
 |dct q _ _=>exact .dK q
 |exc _=>exact absurd rfl (nx _).1
 |fn _=>exact absurd rfl (nx _).2
noncomputable def O5(K:gV)(T:String):List V->Hp->VK->Prop:=fun xs H Q=>∃x t b,xs=[x,.ty T]/\lS K H x t/\SO K t (.type T)=some b/\Q (.bl b) H
section
variable{X:Cx}{e:Expr}{f:Dm.FE}{p p2 pos:Pos}
theorem Dr{T:String}:fm X (.builtin "isinstance") (O5 X.K T):=by intro pins s σ H xs us Q I r h;obtain⟨x,t,b,rfl,ty,e,q⟩:=h;obtain⟨u,u2,rfl,rx,ry⟩:=vals2 r;cases ry;exact Bk I rx ty e fun tk=>⟨.bl b,H,I.tok tk,rfl,q⟩
theorem O6{K:gV}{T:String}{p:Dm.Dat->Bool}(kp:BC T p){σ:L2.St}{H:Hp}{Q:VK}(h:tD (Dm.e1 (Dm.sN p) f) σ H Q):tCB (O5 K T) (lT (tD f) (lT (tC (.ty T)) uG)) σ H Q:=by
 obtain⟨H0,ρ,x,ρ',st,e,k⟩:=h;unfold Dm.e1 at e;split at e
 ·cases e
 rename_i x1 ρ1 e1;split at e
 ·cases e
 rename_i dx p1;have nx:∀C,dx≠.exc C/\dx≠.fn C:=fun C=>⟨fun z=>(by subst z;cases e),fun z=>(by subst z;cases e)⟩;have ev:Dm.sN p dx=Dm.vB (p dx):=by cases dx<;>first | rfl | exact absurd rfl (nx _).1 | exact absurd rfl (nx _).2
 rw[ev]at e;dsimp only at e;cases e;refine⟨H0,ρ,x1,_,st,e1,fun v H1 Hb t1 r1=>?_⟩;exact⟨v,_,_,rfl,Dq ((r1.look t1.st p1).full t1.st.same) nx,kp K dx,k _ H1 Hb t1 (Rep.bl _)⟩
theorem wj{T:String}{tn:Str}{p':Dm.Dat->Bool}(kp:BC T p')(hvT:bootBuiltins tn=some (.type T))(hgT:Gl X tn)(hmT:X.mg tn=none)(hg:Gl X "isinstance")(hm:X.mg "isinstance" = none)(h:DE X e f)
  (hn:tn ≠ "__name__" := by decide) (hdb:(tn == ("__debug__" : Str))=false:=by decide)
  (he:starEach [e,.Name tn p2] X.env=(false,eval e X.env)::starEach [.Name tn p2] X.env:=by rfl) (hpl:(backTo pos (starEach [.Name tn p2] X.env)).any (·.1)=false:=by rfl) (he2:starEach [.Name tn p2] X.env=(false,eval (.Name tn p2) X.env)::starEach [] X.env:=by rfl) :
  DE X (.Call (.Name "isinstance" p) [e,.Name tn p2] [] pos) (Dm.e1 (Dm.sN p') f):=
 PE.weak (iP Dr hg hm Um (dX h (dX (zZ (v:=.ty T) hgT hmT hvT rfl hn hdb) gS he2) he) (he:=he) (hpl:=hpl)) fun _ _ _=>O6 kp
theorem all_range(bs:List Bool):(SR bs.length).all (fun i=>bs.getD i true)=bs.all id:=by
 rw[VA,TR,TR];constructor
 ·intro h b hb;obtain⟨i,hi,rfl⟩:=List.mem_iff_getElem.mp hb;have:=h i (TX.mpr hi);rw[Tv,SI hi]at this;exact this
 ·intro h i hi;have hi:=TX.mp hi;rw[Tv,SI hi];exact h _ (Vt hi)
theorem BE(hc:X.calm=true):fm X (.builtin "all") (fun xs H Q=>∃(a:Addr) (bs:List Bool),xs=[.ref a]/\Rd H a (.lst (bs.map V.bl))/\Q (.bl (bs.all id)) H):=by
 intro pins s σ H xs us Q I r h;obtain⟨a,bs,rfl,hq,q⟩:=h;obtain⟨u,rfl,rx⟩:=vals1 r;cases rx;obtain⟨z,its,n,rv,e⟩:=hq.ok I.hok;have hl:s.heap.IsList a its.toArray:=⟨_,e,rfl,_,rfl⟩
 have hlen:=rv.length;rw[Sx]at hlen;have hax:a≠s.heap.objs.size:=S0 (SD e);refine PySem.call_all_walk (wpAny_pyIter_list hl ⟨s.heap.objs.size,_,_,_,_,_,fun i=>bs.getD i true,rfl,Walks.list (A:=X.A.in1) (I.ok.hd hc) s.heap.objs.size a hax its.toArray,⟨⟨_,SY _ rfl,rfl,rfl⟩,hl.push _⟩,?_,fun h' tk hk=>?_⟩)
 ·intro i v s' Q' E' hv hQ';have hv':its[i]?=some v:=by simpa using hv
  have hi:i<bs.length:=by rw[hlen];exact(Sw.mp hv').1
  have hb:(bs.map V.bl)[i]?=some (V.bl bs[i]):=by rw[SM,SI hi];rfl
  obtain⟨u,hu,ru⟩:=rv.get hb;rw[hv']at hu;cases hu;cases ru;refine wpAny_truthy_bool ?_;have e2:bs.getD i true=bs[i]:=by rw[Tv,SI hi];rfl
  rw[<- e2];exact hQ'
 ·have e1:its.toArray.size=bs.length:=by rw[SE,hlen]
  rw[e1,all_range];refine⟨.bl _,H,I.kept (t':=tk) fun b o eb=>hk b o ?_ (PU _ eb),rfl,q⟩;intro hm;have:b=s.heap.objs.size:=by simpa using hm
  exact absurd (SD eb) (by rw[this];exact Tq _)
end
section
variable{X:Cx}{a b c e:Expr}{f fa fb fc:Dm.FE}{p p2 pos:Pos}
theorem Hr{r r':R2}{g h:Dm.Dat->Dm.Dat->Option Dm.RV}(o1:OpD r g)(o2:OpD r' h){σ:L2.St}{H:Hp}{Q:VK}(hh:tD (Dm.j5 g h fa fb fc) σ H Q):CF r r' (tD fa) (tD fb) (tD fc) σ H Q:=by
 obtain⟨H0,ρ,x,ρ',st,e,k⟩:=hh;unfold Dm.j5 at e;split at e
 ·cases e
 rename_i x1 ρ1 e1;split at e
 ·cases e
 rename_i y1 ρ2 e2;split at e
 ·cases e
 rename_i dx p1;split at e
 ·cases e
 rename_i dy p2;refine⟨H0,ρ,x1,ρ1,st,e1,fun v H1 Hb t1 r1=>⟨H1,ρ1,y1,ρ2,t1.st,e2,fun u H2 Hc t2 r2=>?_⟩⟩;split at e
 ·rename_i gz;refine o1 H2 Hc v u dx dy _ _ t2.st.same ((r1.mono t2).look t2.st p1) (r2.look t2.st p2) gz fun w H3 Hd g3 r3=>?_;refine⟨true,Rep.pX r3,?_⟩;rw[if_pos rfl];have t3:=t2.trans (.grow t2.st g3);have r2':=r2.mono (.grow t2.st g3);split at e
  ·cases e
  rename_i z ρ3 e3;split at e
  ·cases e
  rename_i dy' p3;split at e
  ·cases e
  rename_i dz p4;split at e
  ·cases e
  rename_i w2 hz;cases e;refine⟨H3,ρ2,z,_,t3.st,e3,fun w' H4 He t4 r4=>?_⟩;refine o2 H4 He u w' dy' dz w2 Q t4.st.same ((r2'.mono t4).look t4.st p3) (r4.look t4.st p4) hz fun w5 H5 Hf g5 r5=>?_;exact k w5 H5 Hf (t1.trans (t3.trans (t4.trans (.grow t4.st g5)))) ((r5.toV t4.st).early fun a n=>(t1.trans (t3.trans t4)).stp.gone n)
 ·rename_i gz;cases e;refine o1 H2 Hc v u dx dy _ _ t2.st.same ((r1.mono t2).look t2.st p1) (r2.look t2.st p2) gz fun w H3 Hd g3 r3=>?_;refine⟨false,Rep.pX r3,?_⟩;rw[if_neg Tf];exact k _ H3 Hd (t1.trans (t2.trans (.grow t2.st g3))) (Rep.bl false)
 ·cases e
theorem Ht{op op':CmpOp}{r r':R2}{g h:Dm.Dat->Dm.Dat->Option Dm.RV}(o1:OpR X (compareOp op) r)(q1:OpD r g)(o2:OpR X (compareOp op') r')(q2:OpD r' h)(ha:DE X a fa)(hb:DE X b fb)(hc:DE X c fc)
  (hm:lastMarks [op,op'] [b,c]=false:=by with_unfolding_all rfl):DE X (.Compare a [op,op'] [b,c] pos) (Dm.j5 g h fa fb fc):=PE.weak (CG o1 o2 ha hb hc hm) fun _ _ _=>Hr q1 q2
theorem Dt(n d:Nat)(o:Option Int)(hd:d<=n):HT.sIx n d o=Dm.sIx n d o:=by
 cases o with
 |none=>rfl
 |some v=>
  unfold HT.sIx Dm.sIx
  first
   |rfl
   |(dsimp only;split<;>omega)
theorem BF{H0:Hp}{xs:List V}{ds:List Dm.Dat}(rs:aH H0 xs ds)(lo hi:Option Int):aH H0 (yH xs lo hi) (Dm.cut ds lo hi):=by unfold yH Dm.cut;rw[rs.length,Dt _ _ _ (Ti _),Dt _ _ _ (Sz _)];exact(rs.drop _).take _
theorem Aj{fo:Option Dm.FE}{σ:L2.St}{H0 H:Hp}{ρ ρ':Dm.Env}{o:Option Int}{Q:Option Int->Hp->Prop}(st:az H0 H σ ρ)(e:Dm.part fo ρ=some (o,ρ'))(k:∀H0' H',ESt σ ρ H0 H ρ' H0' H'->Q o H') :
  (match fo with | none=>uH | some f=>CK (tD f)) σ H Q:=by
 cases fo with
 |none=>cases e;exact k H0 H (.refl st)
 |some f=>
  unfold Dm.part at e;dsimp only at e;split at e
  ·rename_i i ρ1 e1;cases e;exact⟨H0,ρ,_,_,st,e1,fun v H1 Hb t1 r1=>⟨i,Rep.isInt r1,k H1 Hb t1⟩⟩
  ·cases e
noncomputable abbrev tOf(fo:Option Dm.FE):TO:=match fo with | none=>uH | some f=>CK (tD f)
theorem Rz{K:gV}{lo hi:Option Dm.FE}{σ:L2.St}{H:Hp}{Q:VK}(h:tD (Dm.eSl f lo hi) σ H Q):tSl (Oq K) (tD f) (tOf lo) (tOf hi) σ H Q:=by
 obtain⟨H0,ρ,x,ρ',st,e,k⟩:=h;unfold Dm.eSl at e;split at e
 ·cases e
 rename_i x1 ρ1 e1;split at e
 ·cases e
 rename_i l ρ2 e2;split at e
 ·cases e
 rename_i hh ρ3 e3;split at e
 ·rename_i ds p1;cases e;refine⟨H0,ρ,x1,ρ1,st,e1,fun v H1 Hb t1 r1=>?_⟩;refine Aj t1.st e2 fun H2 Hc t2=>?_;refine Aj t2.st e3 fun H3 Hd t3=>?_;have tt:=t1.trans (t2.trans t3);obtain⟨a,xs,rfl,qa,ra⟩:=b8 t3.st.same ((r1.mono (t2.trans t3)).look t3.st p1);refine⟨a,xs,rfl,.inl qa,fun q hq=>?_⟩;have g:=aQ.oZ (o:=HO.lst (yH xs l hh)) t3.st.same hq;refine k _ _ _ (tt.trans (.grow t3.st g)) ⟨q,rfl,tt.stp.gone hq,t3.st.bX hq,t3.st.same.free hq,_,au,BF ra l hh⟩
 ·cases e
theorem RA{lo hi:Option Expr}{flo fhi:Option Dm.FE}(h:DE X e f)(hl:PO X lo (tOf flo))(hh:PO X hi (tOf fhi)):DE X (.Subscript e (.Slice lo hi none p2) pos) (Dm.eSl f flo fhi):=PE.weak (CL GS h hl hh) fun _ _ _=>Rz
theorem o_n:PO X none (tOf none):=GQ
theorem o_s(h:DE X e f):PO X (some e) (tOf (some f)):=GR h
end
section
variable{X:Cx}{nm:List Str}{elt tg iter:Expr}{ifs:List Expr}{scope:Scope}{pos:Pos}{own:List Str}{fi:Dm.FI}{bd:Dm.FB}{is:List Nat}{t:Dm.FT}{f:Dm.FE}
noncomputable abbrev DTs(X:Cx)(ifs:List Expr)(t:Dm.FT):Prop:=PTs X ifs (tDT t)
theorem gy:DTs X [] Dm.gm:=fun pins s σ H Q I h=>by obtain⟨H0,ρ,b,ρ',st,e,k⟩:=h;cases e;exact Ac pins s σ H Q I (k H0 H (.refl st))
theorem nv{c:Expr}(h:DT X c t):DTs X [c] t:=G7 h
structure TGc(X:Cx)(nm:List Str)(scope:Scope)(own:List Str)(tg:Expr)(is:List Nat)(bd:Dm.FB):Prop where
 ex:∃g,(∀cl C s H fp,PG (bL X nm scope own cl C s H fp) tg g)/\BD is g bd
theorem c_n(i:Nat){x:Str}{px:Pos}(hN:(nm++own).Nodup)(hi:(nm++own)[i]?=some x)(hx:(relabel scope X.env).names.lookup x=some .local):TGc X nm scope own (.Name x px) [i] (Dm.bN i):=
 ⟨⟨_,fun cl C s H fp=>uE (X:=bL X nm scope own cl C s H fp) hN hi (.inl hx) (.inr hx),Ab i⟩⟩
theorem c_t{es:List Expr}{k:Nat}{tpos:Pos}(hc:X.calm=true)(hg:∀cl C s H fp,PGs (bL X nm scope own cl C s H fp) es (gw is))(hn:∀cl C,(assignEach es (compEnvC scope cl C X.env)).length=is.length:=by intro _ _;rfl)
  (hst:∀cl C,(assignEach es (compEnvC scope cl C X.env)).findIdx? (·.1)=none:=by intro _ _;rfl):TGc X nm scope own (.Tuple es k tpos) is (Dm.bT is):=
 ⟨⟨_,fun cl C s H fp=>yz (X:=bL X nm scope own cl C s H fp) hc (hg cl C s H fp) (hn cl C) (hst cl C),C5 is rfl⟩⟩
theorem LS(hc:X.calm=true)(S:fK X nm scope)(hi:DI X tg iter fi)(hg:TGc X nm scope own tg is bd)(ht:∀cl C s H fp,DTs (bL X nm scope own cl C s H fp) ifs t)(he:∀cl C s H fp,DE (bL X nm scope own cl C s H fp) elt f)
  (hl:∀i∈is,X.N.length<=i) (hs:∀x,foldedSetIterable iter X.env x=pure x:=by intro _;rfl):DE X (.ListComp elt [⟨tg,iter,ifs,0⟩] scope pos) (Dm.dH fi own.length bd t f):=by
 obtain⟨g,h1,h2⟩:=hg.ex;intro pins s σ H Q I h;exact Ad hc S hi h1 ht he hs pins s σ H Q I (yS h2 (fun i hi=>by rw[I.len];exact hl i hi) h)
theorem LU(j:Nat){y:Str}{py spos:Pos}(hN:X.N.Nodup)(hc:X.calm=true)(S:fK X nm scope)(hi:DI X tg iter fi)(hg:TGc X nm scope own tg is bd)(ht:∀cl C s H fp,DTs (bL X nm scope own cl C s H fp) ifs t)(he:∀cl C s H fp,DE (bL X nm scope own cl C s H fp) elt f)
  (hl:∀i∈is,X.N.length<=i) (hj:X.N[j]?=some y:=by rfl) (hy:Loc X.env.scope y:=by trivial)
  (hsw:swapsWith (.ListComp elt [⟨tg,iter,ifs,0⟩] scope pos) (some (.Name y py)) spos.line X.env=pure true:=by rfl) (hs:∀x,foldedSetIterable iter X.env x=pure x:=by intro _;rfl)
  (hf:X.fn y=true\/X.env.scope.names.lookup y=some .local:=by trivial):DS X (.Assign [.Name y py] (.ListComp elt [⟨tg,iter,ifs,0⟩] scope pos) spos) (Dm.sA j (Dm.dH fi own.length bd t f)):=by
 obtain⟨g,h1,h2⟩:=hg.ex;intro pins s σ H D I h;exact iW hN hj hy hc S hi h1 ht he hsw hs hf pins s σ H D I (yS h2 (fun i hi=>by rw[I.len];exact hl i hi) (Jy h))
end
theorem qd{H0:Hp}:∀{ds:List Dm.Dat} {bs:List Bool} {vs:List V},aH H0 vs ds->Dm.bools ds=some bs->vs=bs.map V.bl
 |[],bs,vs,r,e=>by cases r;cases e;rfl
 |.bl b::ds,bs,vs,r,e=>by
  cases r with
  |cons r rs=>
   unfold Dm.bools at e;cases q:Dm.bools ds with
   |none=>rw[q]at e;cases e
   |some cs=>rw[q]at e;cases e;cases Rep.pX r;rw[qd rs q];rfl
 |.non::ds,bs,vs,r,e=>by cases e
 |.int _::ds,bs,vs,r,e=>by cases e
 |.str _::ds,bs,vs,r,e=>by cases e
 |.tup _::ds,bs,vs,r,e=>by cases e
 |.lst _::ds,bs,vs,r,e=>by cases e
 |.dct _ _::ds,bs,vs,r,e=>by cases e
theorem LV:CallD (fun xs H Q=>∃(a:Addr) (bs:List Bool),xs=[.ref a]/\Rd H a (.lst (bs.map V.bl))/\Q (.bl (bs.all id)) H) Dm.yN:=by
 intro H0 H vs ds z Q s rs e k;unfold Dm.yN at e;split at e
 ·split at e
  ·rename_i bs hb;cases e;cases rs with
   |cons r rr=>cases rr;obtain⟨a,us,rfl,qa,ra⟩:=b8 s r;have:=qd ra hb;subst this;exact⟨a,bs,rfl,qa,k _ H0 H (aQ.refl s) (.bl _)⟩
  ·cases e
 ·cases e
theorem LW:CallD (fun xs H Q=>(∃i,xs=[.int i]/\Q (.int i) H)\/∃k,xs=[.bl k]/\Q (.int (if k then 1 else 0)) H) Dm.C0:=by
 intro H0 H vs ds z Q s rs e k;unfold Dm.C0 at e;split at e
 ·cases e;cases rs with
  |cons r rr=>cases rr;cases aG r;exact .inl ⟨_,rfl,k _ H0 H (aQ.refl s) (.int _)⟩
 ·cases e;cases rs with
  |cons r rr=>cases rr;cases Ae r;exact .inr ⟨_,rfl,k _ H0 H (aQ.refl s) (.int _)⟩
 ·cases e
section
variable{X:Cx}{a b c e:Expr}{f:Dm.FE}{fs:List Dm.FE}{p p2 pos:Pos}
theorem JF(hc:X.calm=true)(hg:Gl X "all")(hm:X.mg "all" = none)(ha:DA X [e] fs)(he:starEach [e] X.env=[(false,eval e X.env)]:=by rfl)(hpl:(backTo pos (starEach [] X.env)).any (·.1)=false:=by rfl) :
  DE X (.Call (.Name "all" p) [e] [] pos) (Dm.eB Dm.yN fs):=BB (BE hc) LV (by rfl) hg hm ha (he:=he) (hpl:=hpl)
theorem O7(hg:Gl X "int")(hm:X.mg "int" = none)(ha:DA X [e] fs)(he:starEach [e] X.env=[(false,eval e X.env)]:=by rfl)(hpl:(backTo pos (starEach [] X.env)).any (·.1)=false:=by rfl) :
  DE X (.Call (.Name "int" p) [e] [] pos) (Dm.eB Dm.C0 fs):=Ho Bg LW (by rfl) hg hm ha (he:=he) (hpl:=hpl)
end
noncomputable def eW(sc:Scope):List Str->List Str->Bool
 |[],[]=>true
 |x::N,y::nm=>(x == y||(sc.names.lookup y).isNone)&&eW sc N nm
 |_,_=>false
theorem eW.len{sc:Scope}:∀{N nm:List Str},eW sc N nm=true->nm.length=N.length
 |[],[],_=>rfl
 |[],_::_,h=>by cases h
 |_::_,[],h=>by cases h
 |x::N,y::nm,h=>by rw[eW,Td]at h;rw[Tt,Tt,eW.len h.2]
theorem eW.at{sc:Scope}:∀{N nm:List Str},eW sc N nm=true->∀(i:Nat) (x:Str),nm[i]?=some x->N[i]?=some x\/sc.names.lookup x=none
 |[],[],_,i,x,e=>by simp at e
 |[],_::_,h,_,_,_=>by cases h
 |_::_,[],h,_,_,_=>by cases h
 |x::N,y::nm,h,0,z,e=>by
  rw[eW,Td,Bool.or_eq_true]at h;simp at e;subst e;rcases h.1 with q | q
  ·have:x=y:=by simpa using q
   subst this;exact .inl rfl
  ·exact .inr (by simpa using q)
 |x::N,y::nm,h,i+1,z,e=>by rw[eW,Td]at h;rw[TZ]at e ⊢;exact eW.at h.2 i z e
noncomputable def qe(osc:Scope)(N nm:List Str)(sc:Scope):Bool:=
 sc.names.all (fun y=>y.2 != .cell)&&sc.names.all (fun y=>y.2 != .local||sc.names.lookup y.1 == some .local) &&
 sc.names.all (fun y=>y.2 != .free||(osc.names.lookup y.1 == some .cell||osc.names.lookup y.1 == some .free))&&nm.all (fun x=>sc.names.lookup x != some .local)&&eW sc N nm
theorem fK.of{X:Cx}{nm:List Str}{scope:Scope}(h:qe X.env.scope X.N nm scope=true)(hk:scope.kind=.function):fK X nm scope:=by
 unfold qe at h;simp only[Td,TR]at h;obtain⟨⟨⟨⟨h1,h2⟩,h3⟩,h4⟩,h5⟩:=h;refine⟨hk,fun y hy=>?_,fun y hy hl=>?_,fun y hy hf=>?_,fun x hx=>?_,eW.len h5,eW.at h5⟩
 ·have:=h1 y hy;simpa using this
 ·have:=h2 y hy;rw[hl]at this
  simpa using this
 ·have:=h3 y hy;rw[hf]at this;have:(X.env.scope.names.lookup y.1 == some .cell||X.env.scope.names.lookup y.1 == some .free)=true:=by simpa using this
  rw[Bool.or_eq_true,beq_iff_eq,beq_iff_eq]at this;exact this
 ·have:=h4 x hx;simpa using this
section
variable{X:Cx}{elt tg iter:Expr}{ifs:List Expr}{scope:Scope}{pos:Pos}{fi:Dm.FI}{bd:Dm.FB}{is:List Nat}{t:Dm.FT}{f:Dm.FE}
theorem wk{l:List Nat}{n:Nat}(h:(l.all fun i=>decide (n<=i))=true):∀i∈l,n<=i:=fun i hi=>of_decide_eq_true (TR.mp h i hi)
theorem LX(nm own:List Str)(hg:TGc X nm scope own tg is bd)(hi:DI X tg iter fi)(ht:∀cl C s H fp,DTs (bL X nm scope own cl C s H fp) ifs t)(he:∀cl C s H fp,DE (bL X nm scope own cl C s H fp) elt f)
  (hc:X.calm=true:=by rfl) (hk:scope.kind=.function:=by rfl) (hS:qe X.env.scope X.N nm scope=true:=by rfl) (hl:(is.all fun i=>decide (X.N.length<=i))=true:=by rfl) (hs:∀x,foldedSetIterable iter X.env x=pure x:=by intro _;rfl) :
  DE X (.ListComp elt [⟨tg,iter,ifs,0⟩] scope pos) (Dm.dH fi own.length bd t f):=LS hc (fK.of hS hk) hi hg ht he (wk hl) hs
theorem Hu(j:Nat)(nm own:List Str){y:Str}{py spos:Pos}(hN:X.N.Nodup)(hg:TGc X nm scope own tg is bd)(hi:DI X tg iter fi)(ht:∀cl C s H fp,DTs (bL X nm scope own cl C s H fp) ifs t)(he:∀cl C s H fp,DE (bL X nm scope own cl C s H fp) elt f)
  (hc:X.calm=true:=by rfl) (hk:scope.kind=.function:=by rfl) (hS:qe X.env.scope X.N nm scope=true:=by rfl) (hl:(is.all fun i=>decide (X.N.length<=i))=true:=by rfl) (hj:X.N[j]?=some y:=by rfl) (hy:Loc X.env.scope y:=by trivial)
  (hsw:swapsWith (.ListComp elt [⟨tg,iter,ifs,0⟩] scope pos) (some (.Name y py)) spos.line X.env=pure true:=by rfl) (hs:∀x,foldedSetIterable iter X.env x=pure x:=by intro _;rfl)
  (hf:X.fn y=true\/X.env.scope.names.lookup y=some .local:=by trivial):DS X (.Assign [.Name y py] (.ListComp elt [⟨tg,iter,ifs,0⟩] scope pos) spos) (Dm.sA j (Dm.dH fi own.length bd t f)):=
 LU j hN hc (fK.of hS hk) hi hg ht he (wk hl) hj hy hsw hs hf
end
theorem PI.or{X:Cx}{tg it:Expr}{t t':TI}(h:PI X tg it t)(h':PI X tg it t'):PI X tg it (fun σ H R=>t σ H R\/t' σ H R):=fun pins s σ H R I q=>q.elim (h pins s σ H R I) (h' pins s σ H R I)
theorem O8{K:gV}{f:Dm.FE}{σ:L2.St}{H:Hp}{R:It->Hp->Prop}(h:tDI (Dm.iS f) σ H R):vQ K (tD f) σ H R\/Cz K (tD f) σ H R:=by
 obtain⟨H0,ρ,ys,ρ',st,e,k⟩:=h;unfold Dm.iS at e;split at e
 ·cases e
 rename_i x ρ1 e1;split at e
 ·rename_i ds ρ2 e2;cases e;exact .inl (Ro ⟨H0,ρ,_,_,st,by unfold Dm.iL;rw[e1];dsimp only;rw[e2],k⟩)
 ·rename_i ds ρ2 e2;cases e;exact .inr (Rp ⟨H0,ρ,_,_,st,by unfold Dm.iT;rw[e1];dsimp only;rw[e2],k⟩)
 ·cases e
theorem i_S{X:Cx}{tg e:Expr}{f:Dm.FE}(h:DE X e f):DI X tg e (Dm.iS f):=PI.weak (PI.or (z4 h) (CA h)) fun _ _ _=>O8
noncomputable def Du(K:gV):Bool:=K.all fun p=>match p.2.cls with | .type n=>n != "list" | _=>true
theorem lookup_mem{a:Addr}{o:Obj}:∀{K:List (Addr×Obj)},K.lookup a=some o->(a,o)∈K
 |[],h=>by cases h
 |(b,x)::r,h=>by
  rw[Tu]at h;cases q:a == b with
  |true=>
   rw[q]at h;cases h;have:a=b:=by simpa using q
   rw[this];exact Sy
  |false=>rw[q]at h;exact SA _ (lookup_mem h)
theorem LY{f:List Dm.Dat->Option Dm.RV}{K:gV}{H:Hp}{a:Addr}{ns:List Int}{E:XK}(hf:f [.lst (ns.map Dm.Dat.int)]=some (.val (.bl true)))(hK:Du K=true)(hS:SqL K H a (ns.map V.int)) :
  spD f [.ref a] H (fun v _=>v=.bl true) E:=by
 have hq:Rd H a (.lst (ns.map V.int)):=by
  rcases hS with h | ⟨o,its,n,hk,hc,_⟩
  ·exact h
  ·have:=TR.mp hK _ (lookup_mem hk);dsimp only at this;rw[hc]at this;exact absurd this (by decide)
 have hr:∀ns:List Int,aH H (ns.map V.int) (ns.map Dm.Dat.int):=fun ns=>by
  induction ns with
  |nil=>exact .nil
  |cons n ns ih=>exact .cons (.int n) ih
 exact⟨H,_,_,av.refl _,.cons (.lst hq (hr ns)) .nil,hf,fun v H0' H' _ r=>Rep.pX r⟩
end Br
namespace Dm
noncomputable def iRd(a b c:FE):FI:=fun ρ=>match a ρ with
 | some (.val (.int i),ρ1)=>(match b ρ1 with
  | some (.val (.int j),ρ2)=>(match c ρ2 with
   |some (.val (.int k),ρ3)=>if k=-1/\j<=BIG/\-BIG<=j/\i<=BIG/\-BIG<=i then some (downs i (i-j).toNat,ρ3) else none
   |_=>none)
  |_=>none)
 |_=>none
noncomputable def BG(a:FE):FI:=fun ρ=>match a ρ with
 |none=>none
 |some (x,ρ1)=>match tk ρ1 x with
  |some (.lst ds,ρ2)=>some (ds.reverse,ρ2)
  |_=>none
noncomputable def l9:Nat->List Dat->List Dat
 |_,[]=>[]
 |i,d::ds=>.tup [.int (i:Nat),d]::l9 (i+1) ds
noncomputable def iEn(a:FE):FI:=fun ρ=>match a ρ with
 |none=>none
 |some (x,ρ1)=>match tk ρ1 x with
  |some (.lst ds,ρ2)=>some (l9 0 ds,ρ2)
  |_=>none
noncomputable def qf(d:Dat):Option RV:=match d with
 |.lst ds=>some (.new (.lst ds.reverse))
 |_=>none
noncomputable def tS:List Dat->Option RV
 |[.int j]=>if j<=1000000/\-1000000<=j then some (.new (.lst (ups 0 j.toNat))) else none
 |_=>none
end Dm
namespace Br
open PySem PySem.Spec PyProof.Rows L2
theorem tT{X:Cx}{pins:List (Addr×Obj)}{σ:L2.St}{H:Hp}{s:Shared}{h':Heap}{t':Nat}{fp:List Addr}{p:Addr}{o:HO}(I:Inv X pins σ H s)(hf:∀b∈fp,sI X pins H b)
  (k:∀b u,b∉fp->s.heap.get? b=some u->h'.get? b=some u) (hp:s.heap.objs.size<=p) (new:br X.prog X.w (upd H p o) h' p o):Inv X pins σ (upd H p o) { s with heap:=h',toks:=t' }:=by
 have hn:H p=none:=I.hok.fresh hp;have nf:∀b u,H b=some u->b∉fp:=fun b u e z=>by rw[(hf b z).1]at e;cases e
 have nL:X.env.locals∉fp:=fun z=>(hf _ z).2.1 rfl;refine I.step (g':=s.gens) (d':=s.drawn) (ch:=fp) (fun b hb=>?_) (fun b u _ _ hc e _=>k b u hc e) (fun b u _ _ hc e _=>⟨u.slots,k b u hc e⟩)
  (fun b u _ e n=>by rw[aj (S0 (SN (SD e) hp))];exact n) (fun b u hc e=>⟨u,k b u hc e⟩)
  (fun b xs q=>by rw[aj (aO q hn)];exact q) (fun b u xs q=>by rw[aj (aO q hn)];exact q) (fun b ps q=>⟨#[],by rw[aj (aO q hn),q];simp⟩) (fun m hm=>?_) (fun b u e=>?_) I.bare
 ·obtain⟨f0,f1,f2,f3,f4,f5⟩:=hf b hb;exact⟨f3,f1,f4,f5⟩
 ·obtain⟨o,es,ep,ho,r⟩:=hm;exact⟨o,es,ep,k _ o nL ho,r⟩
 ·by_cases hb:b=p
  ·subst hb;rw[au]at e;cases e;exact new
  ·rw[aj hb]at e;refine(I.hok b u e).stay (fun c v hc q=>k c v ?_ q) (fun c q=>by rw[aj (aO q hn)];exact q) fun c xs q=>by rw[aj (aO q hn)];exact q
   rcases hc with z | z
   ·rw[z];exact nf b u e
   ·exact nf c _ z
noncomputable def Itv(K:gV)(a:Addr)(n:Nat):It:=
 ⟨fun i H=>∃xs x,SqL K H a xs/\xs.length=n/\xs.reverse[i]?=some x,fun i H x H'=>H'=H/\∀xs,SqL K H a xs->xs.reverse[i]?=some x,fun i H=>n<=i⟩
theorem Dv{P:Program}{w:World}{K:gV}{tg:Expr}(a it:Addr)(n:Nat):Turn P w K tg (Itv K a n) [it] it (fun i h=>i<=n/\h.IsRevIter it a ((n:Int)-1-(i:Nat))) where
 mem:=by simp
 obj:=fun i h st b hb=>by
  have e:b=it:=by simpa using hb
  subst e;obtain⟨_,o,e,c,d⟩:=st;exact⟨o,e,fun v z=>by rw[d]at z;cases z⟩
 keep:=fun i h h' st k=>⟨st.1,st.2.at fun o e=>k it (by simp) o e⟩
 item:=by
  intro X hP hw hK hc i pins s σ H E I hf st hg;subst hP hw hK;obtain⟨xs,x,hq,hl,hx⟩:=hg;obtain⟨its,rv,p,hz⟩:=I.list hq;have hi:i<n:=by have:=(Sw.mp hx).1;rw[T6,hl]at this;exact this
  rw[U3 (by omega),hl]at hx;obtain⟨u,hu,ru⟩:=rv.get hx;obtain⟨f0,f1,f2,f3,f4,f5⟩:=hf it (by simp);obtain⟨_,st⟩:=st;have ei:((n:Int)-1-(i:Nat))=((n-1-i:Nat):Int):=by omega
  rw[ei]at st;refine wpAny_pyNext_rev_item st p.isList (x:=u) (by simpa using hu) fun h' st' sb=>?_;have ej:((n-1-i:Nat):Int)-1=(n:Int)-1-((i+1:Nat):Int):=by omega
  rw[ej]at st';have I1:Inv X pins σ H { s with heap:=h' }:=I.turned (t':=s.toks) (fun b o hb e=>(sb.2 b hb).trans e) f0 f1 f3 f4 f5;obtain⟨o,e,c,d⟩:=id st';refine⟨u,rfl,tE (s:={ s with heap:=h' }) e c d (by decide) ⟨x,H,I1,ru,⟨rfl,fun ys hy=>?_⟩,⟨hi,st'⟩,fun b hb=>(hf b hb).1⟩⟩;rw[I.iM hy hq,U3 (by omega),hl];exact hx
 done:=by
  intro X hP hw hK hc i pins s σ H E I hf st hg;subst hP hw hK;obtain⟨f0,f1,f2,f3,f4,f5⟩:=hf it (by simp);obtain⟨h1,st⟩:=st;have h2:n<=i:=hg;have ei:((n:Int)-1-(i:Nat))=-1:=by omega
  rw[ei]at st;exact wpAny_pyNext_rev_end (I.ok.hd hc) st fun h' eb=>⟨rfl,I.turned (t':=s.toks) (fun b o hb e=>eb b o hb e) f0 f1 f3 f4 f5⟩
 self:=fun _ _ _ _ _ st h=>wpAny_pyIter_revIter st.2 h
noncomputable def JG(K:gV)(tl:TE):TI:=fun σ H R=>tl σ H fun x H1=>∃a xs,x=.ref a/\SqL K H1 a xs/\R (Itv K a xs.length) H1
section
variable{X:Cx}{tg l:Expr}{tl:TE}{p pos:Pos}
theorem Dw{Q:Value->Shared->Prop}{Qx:VK}{pins:List (Addr×Obj)}{s:Shared}{σ:L2.St}{H:Hp}(hg:Gl X "reversed")(hm:X.mg "reversed" = none)(hl:PE X l tl)(hs:starEach [l] X.env=[(false,eval l X.env)])(I:Inv X pins σ H s)(h:tl σ H Qx)
  (k:∀x H1 s1,Inv X pins σ H1 s1->Qx x H1->∃a xs,x=.ref a/\SqL X.K H1 a xs/\∀its:List Value,Vals xs its->PlainL s1.heap a its.toArray->xs.length<=sizeLine->Q (.ref s1.heap.objs.size) { s1 with heap:=s1.heap.push (revObj a ((its.toArray.size:Int)-1)) }) :
  wpAny (model X.prog X.w) X.A (eval (.Call (.Name "reversed" p) [l] [] pos) X.env) Q X.xe s:=by
 refine Call_ (fH I hg hm boot_reversed (Tj (spliced_more ?_ (by rw[hs];rfl)) (by rw[hs];rfl) rfl));refine thn (hl pins s σ H _ I h) fun v s1 ⟨x,H1,I1,r1,q1⟩=>?_;obtain⟨a,xs,e,hq,q⟩:=k x H1 s1 I1 q1;subst e;cases r1;obtain⟨its,rv,pl,hz⟩:=I1.list hq;refine T3 (call_reversed_list pl.isList (q its rv pl hz))
theorem LZ(hg:Gl X "reversed")(hm:X.mg "reversed" = none)(hl:PE X l tl)(hs:starEach [l] X.env=[(false,eval l X.env)]:=by rfl):PI X tg (.Call (.Name "reversed" p) [l] [] pos) (JG X.K tl):=by
 intro pins s σ H R I h;refine Dw hg hm hl hs I h fun x H1 s1 I1 q1=>?_;obtain⟨a,xs,e,hq,q⟩:=q1;refine⟨a,xs,e,hq,fun its rv pl hz=>?_⟩;have hn:(its.toArray.size:Int)=((xs.length:Nat):Int):=by rw[SE,rv.length]
 have st:({ s1 with heap:=s1.heap.push (revObj a ((its.toArray.size:Int)-1)) }:Shared).heap.IsRevIter s1.heap.objs.size a (((xs.length:Nat):Int)-1-((0:Nat):Int)):=⟨_,SY _ rfl,rfl,by rw[hn];simp[revObj]⟩
 refine wpAny_pyIter_revIter st ?_;refine⟨s1.heap.objs.size,[s1.heap.objs.size],_,_,H1,rfl,I1.kept (t':=s1.toks) fun b o e=>PU _ e,Dv a _ xs.length,⟨Ti _,st⟩,fun b hb=>?_,q⟩;have e:b=s1.heap.objs.size:=by simpa using hb
 subst e;exact I1.vP (Sz _) (I1.hok.fresh (Sz _))
end
noncomputable def Ite(K:gV)(a:Addr):It:=
 ⟨fun i H=>∃xs x,SqL K H a xs/\xs[i]?=some x,fun i H x H'=>∃p v,H p=none/\x=.ref p/\H'=upd H p (.tup [.int i,v])/\∀xs,SqL K H a xs->xs[i]?=some v,fun i H=>∃xs,SqL K H a xs/\xs.length<=i⟩
theorem BH{P:Program}{w:World}{K:gV}{elts:List Expr}{x1}{tp:Pos}(a e it:Addr)(hne:e≠it):Turn P w K (.Tuple elts x1 tp) (Ite K a) [e,it] e (fun i h=>(∃old,IsEnum h e it (i:Nat) old)/\h.IsListIter it a i) where
 mem:=by simp
 obj:=fun i h st b hb=>by
  obtain⟨⟨old,he⟩,o,e1,c,d⟩:=st;rcases SH.mp hb with rfl | hb
  ·exact ⟨_,he,fun v z=>by have z':VJ _=Vx v:=z;cases z'⟩
  ·have e2:b=it:=by simpa using hb
   subst e2;exact⟨o,e1,fun v z=>by rw[d]at z;cases z⟩
 keep:=fun i h h' st k=>⟨let ⟨old,he⟩:=st.1;⟨old,k e (by simp) _ he⟩,st.2.at fun o z=>k it (by simp) o z⟩
 item:=by
  intro X hP hw hK hc i pins s σ H E I hf st hg;subst hP hw hK;obtain⟨xs,x,hq,hx⟩:=hg;obtain⟨its,rv,p,hz⟩:=I.list hq;obtain⟨u,hu,ru⟩:=rv.get hx;obtain⟨⟨old,he⟩,hit⟩:=st;refine wpAny_pyNext_enum_item he hit p.isList (x:=u) (by simpa using hu) hne fun h1 heo RB ht1 hz1 hk1=>?_;refine⟨_,rfl,wpAny_letOwnedTupleGo_enum heo fun h2 he2 hs2=>?_⟩;have hlt:e<s.heap.objs.size:=SD he;have ht2:h2.get? s.heap.objs.size=some { cls:=.type "tuple",data:=.seq #[.int i s.toks,u] }:=(hs2.2 _ (Ux hlt)).trans ht1;have k2:∀b o,b∉[e,it]->s.heap.get? b=some o->h2.get? b=some o:=fun b o hb z=>by have n1:b≠e:=fun y=>hb (by simp[y]);have n2:b≠it:=fun y=>hb (by simp[y]);exact(hs2.2 b n1).trans (hk1 b o n1 n2 z)
  have hn:H s.heap.objs.size=none:=I.hok.fresh (Sz _);have I2:Inv X pins σ (upd H s.heap.objs.size (.tup [.int i,x])) { s with heap:=h2,toks:=s.toks+1 }:=
   tT I hf k2 (Sz _) ⟨by simp[sizeLine],[.int i s.toks,u],.cons ⟨s.toks,rfl⟩ (.cons ru .nil),_,ht2,rfl,_,rfl⟩
  refine⟨.ref s.heap.objs.size,_,I2,rfl,⟨_,x,hn,rfl,rfl,fun ys hy=>by rw[I.iM hy hq];exact hx⟩,⟨⟨u,?_⟩,?_⟩,fun b hb=>?_⟩
  ·have:(((i+1:Nat):Int))=(i:Int)+1:=by omega
   rw[this];exact he2
  ·exact RB.at fun o z=>(hs2.2 it (Ne.symm hne)).trans z
  ·have hb1:b≠s.heap.objs.size:=fun y=>by
    rcases SH.mp hb with z | z
    ·rw[y]at z;exact absurd z (Ux hlt)
    ·have z':b=it:=by simpa using z
     obtain⟨o,ho,_⟩:=hit;have:=SD ho;rw[<- z',y]at this;exact Tq _ this
   rw[aj hb1];exact(hf b hb).1
 done:=by intro X hP hw hK hc i pins s σ H E I hf st hg;subst hP hw hK;obtain⟨xs,hq,hx⟩:=hg;obtain⟨its,rv,p,hz⟩:=I.list hq;obtain⟨f0,f1,f2,f3,f4,f5⟩:=hf it (by simp);obtain⟨⟨old,he⟩,hit⟩:=st;have hl:=rv.length;exact wpAny_pyNext_enum_end (I.ok.hd hc) he hit p.isList (by simp;omega) fun h' eb=>⟨rfl,I.turned (t':=s.toks) (fun b o hb e=>eb b o hb e) f0 f1 f3 f4 f5⟩
 self:=fun A i s Q E st h=>by
  obtain⟨⟨old,he⟩,hit⟩:=st;have hT:s.TypeIs (.ref e) "enumerate" := ⟨_,he,rfl⟩
  refine wpAny_pyIter_slot hT F.slot_enumerate_iter (wpAny_call_entry F.slot_enumerate_iter hT F.entry_enumerate_iter ?_ (F.args_enumerate_iter_1 _));show wpAny _ _ (ret (.ref e)) _ _ s;exact wpAny_pure ⟨_,rfl,"enumerate",_,hT,F.slot_enumerate_next.lookup,h⟩
noncomputable def O9(K:gV)(tl:TE):TI:=fun σ H R=>tl σ H fun x H1=>∃a,x=.ref a/\(∃xs,SqL K H1 a xs)/\R (Ite K a) H1
section
variable{X:Cx}{l:Expr}{tl:TE}{p pos:Pos}{elts:List Expr}{x1:Nat}{tp:Pos}
theorem Hv(hg:Gl X "enumerate")(hm:X.mg "enumerate" = none)(hl:PE X l tl)(hs:starEach [l] X.env=[(false,eval l X.env)]:=by rfl):PI X (.Tuple elts x1 tp) (.Call (.Name "enumerate" p) [l] [] pos) (O9 X.K tl):=by
 intro pins s σ H R I h;refine Call_ (fH I hg hm boot_enumerate (Tj (spliced_more ?_ (by rw[hs];rfl)) (by rw[hs];rfl) rfl));refine thn (hl pins s σ H _ I h) fun v s1 ⟨x,H1,I1,r1,q1⟩=>?_;obtain⟨a,e,⟨xs,hq⟩,q⟩:=q1;subst e;cases r1;obtain⟨its,rv,pl,hz⟩:=I1.list hq;refine T3 (call_enumerate_list pl.isList fun h' he hit hsz k=>?_);have I2:Inv X pins σ H1 { s1 with heap:=h' }:=I1.kept (t':=s1.toks) k;have T:=BH (P:=X.prog) (w:=X.w) (K:=X.K) (elts:=elts) (x1:=x1) (tp:=tp) a (s1.heap.objs.size+1) s1.heap.objs.size (Nat.succ_ne_self _);refine T.self X.A 0 { s1 with heap:=h' } _ X.xe ⟨⟨_,he⟩,hit⟩ ?_;refine⟨s1.heap.objs.size+1,[s1.heap.objs.size+1,s1.heap.objs.size],_,_,H1,rfl,I2,T,⟨⟨_,he⟩,hit⟩,fun b hb=>?_,q⟩;have:s1.heap.objs.size<=b:=by
  rcases SH.mp hb with rfl | hb
  ·exact VB _
  ·have:b=s1.heap.objs.size:=by simpa using hb
   exact Nat.le_of_eq this.symm
 exact I1.vP this (I1.hok.fresh this)
end
theorem yU:typeLookup (.type "list_reverseiterator") "__len__" = pure none:=by rw[typeLookup_type,builtinLookup_eq_fast];kernel_rfl
theorem Dy:typeLookup (.type "list_reverseiterator") "__length_hint__" = pure (some (.builtin "list_reverseiterator.__length_hint__")):=by rw[typeLookup_type,builtinLookup_eq_fast];kernel_rfl
section
variable{prog:Program}{w:World}{A:Around}{E:Value->Shared->Prop}{s:Shared}
theorem Dz{I l:Addr}{i:Int}{Q:Bool->Shared->Prop}(hit:s.heap.IsRevIter I l i)(h:Q false s):wpAny (model prog w) A (Builtin.List.listLengthHint (.ref I)) Q E s:=by
 unfold Builtin.List.listLengthHint;refine wpAny_bind (wpAny_specialOf hit.typeIs yU ?_);show wpAny _ A (specialOf (S4 I) (Str.ofString "__length_hint__") >>= _) _ _ _;refine wpAny_bind (wpAny_specialOf hit.typeIs Dy ?_)
 generalize hid:("list_reverseiterator.__length_hint__" : String)=id0
 wp_delta
 rw[show splitId id0=some ("list_reverseiterator","__length_hint__") from by subst hid;decide +kernel];subst hid;refine wpAny_bind (wpAny_isInstance (T := "list_reverseiterator") (b:=true) hit.typeIs (by rw[isSubtype_type];kernel_rfl) ?_);refine wpAny_ite_split (fun hab=>absurd hab (by decide)) (fun _=>?_);refine wpAny_ite_split (fun _=>?_) (fun hab=>absurd (by decide +kernel) hab);refine wpAny_ite_split (fun hab=>absurd hab (by decide +kernel)) (fun _=>wpAny_pure h)
theorem yV{R:Result->Shared->Prop}{I l:Addr}{items:Array Value}(hh:A.handled=none)(hit:s.heap.IsRevIter I l ((items.size:Int)-1))(hl:s.heap.IsList l items)(hne:l≠I)(hlen:items.size<=sizeLine)
  (S:Addr) (res:Value) (c₀:Nat) (hSI:S≠I) (hSl:S≠l) (hS:s.heap.get? S=some { cls:=.type "list",data:=.seq #[] c₀ })
  (hR:∀ h' tk acc' c',(∀ b o,b≠S→b≠I→s.heap.get? b=some o→h'.get? b=some o)→h'.get? S=some { cls:=.type "list",dict:=none,data:=.seq acc' c',slots:=#[] } →
   ItemsOf (fun i v=>items[items.size-1-i]?=some v) acc' items.size->R (.ok (.ret res)) { s with heap:=h',toks:=tk }) :
  wpAny (model prog w) A.in1 (Uq (.ref S) (.ref I) res)
   (fun fin s'=>match fin with | .done f=>R (.ok f) s' | .again c'=>c'.quiet=true/\codeAny (model prog w) A c' R s') (fun e s'=>R (.error e) s') s:=by
 have hSf:S∉[I,l]:=fun hm=>by
  rcases SH.mp hm with z | z
  ·exact hSI z
  ·exact hSl (SV.mp z)
 have W:=(Walks.listRev (prog:=prog) (w:=w) (A:=A.in1) hh I l hne items).toS;unfold Uq;refine wpAny_bind (wpAny_typeOf (T := "list_reverseiterator") hit.typeIs ?_);have h1:Builtin.List.listSameRef (.ref S) (.ref I)=false:=by simp[Builtin.List.listSameRef,hSI]
 have h2:(UU "list_reverseiterator" == UU "list")=false:=by decide
 have h3:(UU "list_reverseiterator" == UU "tuple")=false:=by decide
 simp only[h1,h2,h3,Bool.or_false,Ub,if_false];refine wpAny_bind (wpAny_pyIter_revIter hit ?_);refine wpAny_bind (wpAny_holding (Dz hit ?_));refine wpAny_ite_split (fun hab=>absurd hab (by decide +kernel)) (fun _=>wpAny_pure ⟨plainId_quiet F.plain_extend_loop _,?_⟩);have hst:(0<=items.size)/\s.heap.IsRevIter I l ((items.size:Int)-1-((0:Nat):Int))/\s.heap.IsList l items:=⟨Ti _,by simpa using hit,hl⟩
 refine codeAny_extend_loopS W hlen S hSf res items.size 0 _ #[] c₀ rfl (Ti _) hst hS (ItemsOf.nil _) fun s' acc' c' hm hS' hacc=>?_;rw[Moved.eq_with hm];refine hR s'.heap s'.toks acc' c' (fun b o hb hb2 e=>hm.heap b o (fun hmem=>?_) e) hS' hacc;rcases SH.mp hmem with e' | hmem
 ·exact hb e'
 ·exact hb2 (SV.mp hmem)
theorem DB{R:Result->Shared->Prop}{I l:Addr}{items:Array Value}(hh:A.handled=none)(hit:s.heap.IsRevIter I l ((items.size:Int)-1))(hl:s.heap.IsList l items)(hne:l≠I)(hlen:items.size<=sizeLine)
  (S:Addr) (hSI:S≠I) (hSl:S≠l) (hS:s.heap.get? S=some { cls:=.type "list",data:=.seq #[] })
  (hR:∀ h' tk acc' c',(∀ b o,b≠S→b≠I→s.heap.get? b=some o→h'.get? b=some o)→h'.get? S=some { cls:=.type "list",dict:=none,data:=.seq acc' c',slots:=#[] } →
   ItemsOf (fun i v=>items[items.size-1-i]?=some v) acc' items.size->R (.ok (.ret .none)) { s with heap:=h',toks:=tk }) :
  wpAny (model prog w) A.in1 (Builtin.«list.__init__» ⟨[.ref S,.ref I],[]⟩)
   (fun fin s'=>match fin with | .done f=>R (.ok f) s' | .again c'=>c'.quiet=true/\codeAny (model prog w) A c' R s') (fun e s'=>R (.error e) s') s:=by
 show wpAny _ A.in1 (do let old <- Builtin.List.listItems (.ref S);Builtin.List.listUpdate (.ref S) (fun _=>#[]);letGo old.toList.reverse;Uq (.ref S) (.ref I) .none) _ _ s;refine wpAny_bind ?_;unfold Builtin.List.listItems;refine wpAny_bind (wpAny_seqItems hS rfl (wpAny_pure ?_));show wpAny _ A.in1 (updateSeq S (fun _=>#[]) >>= fun _=>letGo (#[]:Array Value).toList.reverse >>= fun _=>Uq (.ref S) (.ref I) .none) _ _ s;refine wpAny_bind (wpAny_updateSeq hS rfl ?_);have hS₂:=Ua (UW (fun _=>(#[]:Array Value))) hS rfl;have oth:∀b o,b≠S->s.heap.get? b=some o->(s.heap.update S (UW (fun _=>(#[]:Array Value)))).get? b=some o:=
  fun b o hb e=>(TM _ _ (Ne.symm hb)).trans e
 refine wpAny_bind (wpAny_letGo ?_);refine yV hh (hit.at fun o e=>oth I o (Ne.symm hSI) e) (hl.at fun o e=>oth l o (Ne.symm hSl) e) hne hlen S .none _ hSI hSl hS₂ fun h' tk acc' c' hk hS' hacc=>?_;exact hR h' tk acc' c' (fun b o hb hb2 e=>hk b o hb hb2 (oth b o hb e)) hS' hacc
theorem sP{Q:Value->Shared->Prop}{I l:Addr}{items:Array Value}(hh:A.handled=none)(hit:s.heap.IsRevIter I l ((items.size:Int)-1))(hl:s.heap.IsList l items)(hne:l≠I)(hlen:items.size<=sizeLine)
  (hQ:∀ h' tk acc' c',(∀ b o,b≠I→s.heap.get? b=some o→h'.get? b=some o)→h'.get? s.heap.objs.size=some { cls:=.type "list",dict:=none,data:=.seq acc' c',slots:=#[] } →
   ItemsOf (fun i v=>items[items.size-1-i]?=some v) acc' items.size->Q (.ref s.heap.objs.size) { s with heap:=h',toks:=tk }) :
  wpAny (model prog w) A (call (.type "list") [.ref I]) Q E s:=by
 refine callType_codes (Q₁:=fun obj s₁=>obj=.ref s.heap.objs.size/\s₁={ s with heap:=s.heap.push { cls:=.type "list",data:=.seq #[] } }) F.called_list (F.typeCall_list_1 _) F.entry_list_init
  (code_list_new _ ⟨rfl,rfl⟩) fun obj s₁ h₁=>?_
 obtain⟨rfl,rfl⟩:=h₁;have hS:(s.heap.push { cls:=.type "list",data:=.seq #[] }).get? s.heap.objs.size=some { cls:=.type "list",data:=.seq #[] }:=SY _ rfl;obtain⟨oi,hoi,_⟩:=id hit;obtain⟨ol,hol,_⟩:=id hl;refine⟨⟨_,hS,rfl⟩,F.args_list_init_2 _ _,DB (A:=A.in1) hh (hit.at fun o e=>PU _ e) (hl.at fun o e=>PU _ e) hne hlen _ (Ux (SD hoi)) (Ux (SD hol)) hS fun h' tk acc' c' hk hS' hacc=>?_⟩;exact⟨rfl,hQ h' tk acc' c' (fun b o hb e=>hk b o (S0 (SD e)) hb (PU _ e)) hS' hacc⟩
end
theorem qg{P:Nat->Value->Prop}{acc:Array Value}{ys:List V}(h:ItemsOf P acc ys.length)(k:∀i v,P i v->i<ys.length->∃y,ys[i]?=some y/\RelV y v):Vals ys acc.toList:=by
 have:∀(ys:List V) (us:List Value),ys.length=us.length->(∀(i:Nat) (u:Value),us[i]?=some u->∃y,ys[i]?=some y/\RelV y u)->Vals ys us:=by
  intro ys
  induction ys with
  |nil=>intro us e _;cases us with
   |nil=>exact .nil
   |cons _ _=>cases e
  |cons y ys ih=>intro us e f;cases us with
   |nil=>cases e
   |cons u us=>obtain⟨y',h1,h2⟩:=f 0 u rfl;cases h1;exact .cons h2 (ih us (by simpa using e) fun i u' hu=>by simpa using f (i+1) u' (by simpa using hu))
 refine this ys acc.toList (by have:=h.1;simp only[UL];exact this.symm) fun i u hu=>?_;have hu':acc[i]?=some u:=by rw[<- UE];exact hu
 have hi:i<ys.length:=by rw[<- h.1];exact(Array.getElem?_eq_some_iff.mp hu').1
 exact k i u (h.2 i u hu') hi
noncomputable def L5(K:gV)(tl:TE):TE:=fun σ H Q=>tl σ H fun x H1=>∃a xs,x=.ref a/\SqL K H1 a xs/\∀q,H1 q=none->Q (.ref q) (upd H1 q (.lst xs.reverse))
noncomputable def O_(ta:TA):TE:=fun σ H Q=>ta σ H fun vs H1=>∃j:Int,vs=[.int j]/\-(2 ^ 62)<=j/\j<=1000000/\∀q,H1 q=none->Q (.ref q) (upd H1 q (.lst ((SR j.toNat).map fun i=>V.int (i:Nat))))
section
variable{X:Cx}{l a:Expr}{tl:TE}{ta:TA}{p pos p0 qh:Pos}
theorem DC(hc:X.calm=true)(hgl:Gl X "list")(hml:X.mg "list" = none)(hg:Gl X "reversed")(hm:X.mg "reversed" = none)(hl:PE X l tl)(hs:starEach [l] X.env=[(false,eval l X.env)]:=by rfl)
  (hs0:starEach [.Call (.Name "reversed" p) [l] [] pos] X.env=[(false,eval (.Call (.Name "reversed" p) [l] [] pos) X.env)]:=by rfl) :
  PE X (.Call (.Name "list" p0) [.Call (.Name "reversed" p) [l] [] pos] [] qh) (L5 X.K tl):=by
 intro pins s σ H Q I h;refine wpAny_Call_Name_kw (fH I hgl hml boot_list (Tj (spliced_more ?_ (by rw[hs0];rfl)) (by rw[hs0];rfl) rfl));refine Dw hg hm hl hs I h fun x H1 s1 I1 q1=>?_;obtain⟨a,xs,e,hq,q⟩:=q1;refine⟨a,xs,e,hq,fun its rv pl hz=>T3 ?_⟩;have hal:a<s1.heap.objs.size:=by obtain⟨o,ho,_⟩:=pl.isList;exact SD ho
 have hn:=rv.length;refine sP (items:=its.toArray) (I.ok.hd hc) ⟨_,SY _ rfl,rfl,rfl⟩ (pl.isList.at fun o e=>PU _ e) (S0 hal) (by rw[SE,<- hn];exact hz) fun h' tk acc' c' hk hS' hacc=>?_;have hsz:({ s1 with heap:=s1.heap.push (revObj a ((its.toArray.size:Int)-1)) }:Shared).heap.objs.size=s1.heap.objs.size+1:=Uw ..;have hp:s1.heap.objs.size<=({ s1 with heap:=s1.heap.push (revObj a ((its.toArray.size:Int)-1)) }:Shared).heap.objs.size:=by rw[hsz];exact VB _
 have vl:Vals xs.reverse acc'.toList:=by
  refine qg (by rw[T6,hn,<- SE];exact hacc) fun i v hv hi=>?_;rw[T6]at hi;rw[SE]at hv;have hv':its[its.length-1-i]?=some v:=by simpa using hv
  rw[U3 hi,hn];have hlt:=(Sw.mp hv').1;have hx:xs[its.length-1-i]?=some (xs[its.length-1-i]'(by omega)):=SI _;obtain⟨u,hu,ru⟩:=rv.get hx;rw[hv']at hu;cases hu;exact⟨_,hx,ru⟩
 have ok:br X.prog X.w (upd H1 ({ s1 with heap:=s1.heap.push (revObj a ((its.toArray.size:Int)-1)) }:Shared).heap.objs.size (.lst xs.reverse)) h' ({ s1 with heap:=s1.heap.push (revObj a ((its.toArray.size:Int)-1)) }:Shared).heap.objs.size (.lst xs.reverse):=⟨by rw[T6];exact hz,acc'.toList,c',vl,by simpa using hS'⟩
 exact⟨.ref _,_,I1.laid (t':=tk) (fun b u e=>hk b u (S0 (SD e)) (PU _ e)) hp ok,rfl,q _ (I1.hok.fresh hp)⟩
theorem Hw(hc:X.calm=true)(hgl:Gl X "list")(hml:X.mg "list" = none)(hg:Gl X "range")(hm:X.mg "range" = none)(ha:PA X [a] ta)(hs:starEach [a] X.env=[(false,eval a X.env)]:=by rfl)
  (hs0:starEach [.Call (.Name "range" p) [a] [] pos] X.env=[(false,eval (.Call (.Name "range" p) [a] [] pos) X.env)]:=by rfl) :
  PE X (.Call (.Name "list" p0) [.Call (.Name "range" p) [a] [] pos] [] qh) (O_ ta):=by
 intro pins s σ H Q I h;refine wpAny_Call_Name_kw (fH I hgl hml boot_list (Tj (spliced_more ?_ (by rw[hs0];rfl)) (by rw[hs0];rfl) rfl));refine Call_ (fH I hg hm boot_range (Tj (thn (ha pos pins s σ H _ I h) fun us s1 ⟨vs,H1,I1,r1,q1⟩=>?_) hs rfl));obtain⟨j,e,q1,q2,q⟩:=q1;subst e;cases r1 with
 |cons r rr=>
  cases rr;obtain⟨t,rfl⟩:=r;refine call_range_1 (T3 ?_);have hn:Builtin.Range.rangeSize 0 j 1=(j.toNat:Nat):=by rw[rangeSize_one];split<;>omega
  refine call_list_range (n:=j.toNat) (I.ok.hd hc) (IsRange.new ..) (small_one (by omega) (by omega) q1 (by omega)) hn (by omega) fun h' tk acc' c' hk hS' hacc=>?_;have hsz:(s1.heap.push { cls:=.type "range",data:=.fields #[.int 0 s1.toks,.int j t,.int 1 (s1.toks+1)] }).objs.size=s1.heap.objs.size+1:=Uw ..;have hp:s1.heap.objs.size<=(s1.heap.push { cls:=.type "range",data:=.fields #[.int 0 s1.toks,.int j t,.int 1 (s1.toks+1)] }).objs.size:=by rw[hsz];exact VB _
  have vl:Vals ((SR j.toNat).map fun i=>V.int (i:Nat)) acc'.toList:=by
   refine qg (by rw[Sx,S6];exact hacc) fun i v hv hi=>?_;obtain⟨t,rfl⟩:=hv;rw[Sx,S6]at hi;refine⟨.int (i:Nat),by rw[SM,Uk hi];rfl,t,?_⟩;have:(0:Int)+(i:Int)*1=i:=by omega
   rw[this]
  have ok:br X.prog X.w (upd H1 (s1.heap.push { cls:=.type "range",data:=.fields #[.int 0 s1.toks,.int j t,.int 1 (s1.toks+1)] }).objs.size (.lst ((SR j.toNat).map fun i=>V.int (i:Nat)))) h' (s1.heap.push { cls:=.type "range",data:=.fields #[.int 0 s1.toks,.int j t,.int 1 (s1.toks+1)] }).objs.size (.lst ((SR j.toNat).map fun i=>V.int (i:Nat))):=
   ⟨by rw[Sx,S6,sizeLine_eq];omega,acc'.toList,c',vl,by simpa using hS'⟩
  exact⟨.ref _,_,I1.laid (t':=tk) (fun b u e=>hk b u (PU _ e)) hp ok,rfl,q _ (I1.hok.fresh hp)⟩
end
theorem aH.rev{H:Hp}{xs:List V}{ds:List Dm.Dat}(h:aH H xs ds):aH H xs.reverse ds.reverse:=by
 induction xs generalizing ds with
 |nil=>cases h;exact .nil
 |cons x xs ih=>
  cases h with
  |cons r rs=>rw[Vo,Vo];exact(ih rs).append (.cons r .nil)
theorem L6{K:gV}{H0:Hp}{a:Addr}{xs:List V}{ds:List Dm.Dat}(hq:Rd H0 a (.lst xs))(rs:aH H0 xs ds):JW (Itv K a xs.length) H0 ds.reverse:=by intro H0' H s0 s1;have q:SqL K H a xs:=.inl (av.rd s1 (av.rd s0 hq));refine⟨fun i hi=>by rw[T6,<- rs.length]at hi;exact hi,fun i d e=>?_⟩;obtain⟨v,hv,rv⟩:=rs.rev.get e;refine⟨⟨xs,v,q,rfl,hv⟩,fun x H' y=>?_⟩;obtain⟨e1,y⟩:=y;subst e1;have z:=y xs q;rw[hv]at z;cases z;exact⟨H0',aQ.refl s1,rv.mono s0⟩
theorem wo:∀(ds:List Dm.Dat) (i:Nat),(Dm.l9 i ds).length=ds.length
 |[],_=>rfl
 |_::ds,i=>by simp[Dm.l9,wo ds]
theorem wu:∀(ds:List Dm.Dat) (i j:Nat) (d:Dm.Dat),(Dm.l9 i ds)[j]?=some d->∃x,ds[j]?=some x/\d=.tup [.int ((i+j:Nat):Int),x]
 |[],_,_,_,h=>by cases h
 |x::ds,i,0,d,h=>by cases h;exact⟨x,rfl,rfl⟩
 |x::ds,i,j+1,d,h=>by
  obtain⟨y,h1,h2⟩:=wu ds (i+1) j d h;refine⟨y,h1,?_⟩;rw[h2];have:i+1+j=i+(j+1):=by omega
  rw[this]
theorem Hx{K:gV}{H0:Hp}{a:Addr}{xs:List V}{ds:List Dm.Dat}(hq:Rd H0 a (.lst xs))(rs:aH H0 xs ds):JW (Ite K a) H0 (Dm.l9 0 ds):=by intro H0' H s0 s1;have q:SqL K H a xs:=.inl (av.rd s1 (av.rd s0 hq));refine⟨fun i hi=>⟨xs,q,by rw[rs.length,<- wo ds 0];exact hi⟩,fun i d e=>?_⟩;obtain⟨d',hd,rfl⟩:=wu ds 0 i d e;obtain⟨v,hv,rv⟩:=rs.get hd;refine⟨⟨xs,v,q,hv⟩,fun x H' y=>?_⟩;obtain⟨p,v',hn,rfl,rfl,y⟩:=y;have z:=y xs q;rw[hv]at z;cases z;have g:=aQ.Bv (o:=HO.tup [.int i,v]) s1 hn;refine⟨_,g,.tup au (.cons ?_ (.cons ((rv.mono s0).mono g.s0) .nil))⟩;rw[Nat.zero_add];exact .int _
section
variable{σ:L2.St}{H:Hp}{R:It->Hp->Prop}
theorem L7{K:gV}{f:Dm.FE}(h:tDI (Dm.BG f) σ H R):JG K (tD f) σ H R:=by
 obtain⟨H0,ρ,ys,ρ',st,e,k⟩:=h;unfold Dm.BG at e;split at e
 ·cases e
 rename_i x ρ1 e1;split at e
 ·rename_i ds ρ2 e2;cases e;refine⟨H0,ρ,_,ρ1,st,e1,fun v H0' H' t r=>?_⟩;obtain⟨H1,t1,b1,r1,_,_⟩:=take1 t (av.refl _) r e2;cases r1 with
  |lst q rs=>exact⟨_,_,rfl,.inl (av.rd t1.st.same q),k _ H1 H' t1 (L6 q rs)⟩
 ·cases e
theorem Pa{K:gV}{f:Dm.FE}(h:tDI (Dm.iEn f) σ H R):O9 K (tD f) σ H R:=by
 obtain⟨H0,ρ,ys,ρ',st,e,k⟩:=h;unfold Dm.iEn at e;split at e
 ·cases e
 rename_i x ρ1 e1;split at e
 ·rename_i ds ρ2 e2;cases e;refine⟨H0,ρ,_,ρ1,st,e1,fun v H0' H' t r=>?_⟩;obtain⟨H1,t1,b1,r1,_,_⟩:=take1 t (av.refl _) r e2;cases r1 with
  |lst q rs=>exact⟨_,rfl,⟨_,.inl (av.rd t1.st.same q)⟩,k _ H1 H' t1 (Hx q rs)⟩
 ·cases e
end
theorem DG{K:gV}:UnD (fun x H Q=>∃a xs,x=.ref a/\SqL K H a xs/\∀q,H q=none->Q (.ref q) (upd H q (.lst xs.reverse))) Dm.qf:=by
 intro H0 H x dx z Q s rx e k;unfold Dm.qf at e;split at e
 ·cases e;obtain⟨a,us,rfl,qa,ra⟩:=b8 s rx;exact⟨a,us,rfl,.inl qa,fun p hp=>k _ _ _ (aQ.oZ s hp) ⟨p,rfl,hp,s.free hp,_,au,ra.rev⟩⟩
 ·cases e
theorem DH{H:Hp}:∀(n:Nat) ,aH H ((SR n).map fun i=>V.int (i:Nat)) (Dm.ups 0 n):=by
 intro n;unfold Dm.ups;have:∀l:List Nat,aH H (l.map fun i=>V.int (i:Nat)) (l.map fun i=>Dm.Dat.int (0+(i:Nat))):=fun l=>by
  induction l with
  |nil=>exact .nil
  |cons x l ih=>rw[Dk,Dk,VH];exact .cons (.int _) ih
 exact this _
theorem Hy:CallD (fun xs H Q=>∃j:Int,xs=[.int j]/\-(2 ^ 62)<=j/\j<=1000000/\∀q,H q=none->Q (.ref q) (upd H q (.lst ((SR j.toNat).map fun i=>V.int (i:Nat))))) Dm.tS:=by
 intro H0 H xs ds z Q s rx e k;unfold Dm.tS at e;split at e
 ·rename_i j;split at e
  ·rename_i hb;cases e;cases rx with
   |cons r rr=>cases rr;cases aG r;exact⟨j,rfl,by omega,hb.1,fun p hp=>k _ _ _ (aQ.oZ s hp) ⟨p,rfl,hp,s.free hp,_,au,DH _⟩⟩
  ·cases e
 ·cases e
section
variable{X:Cx}{tg e a b c:Expr}{f fa fb fc:Dm.FE}{p pos p0 qh:Pos}{elts:List Expr}{x1:Nat}{tp:Pos}
theorem Pb(hg:Gl X "reversed")(hm:X.mg "reversed" = none)(h:DE X e f)(hs:starEach [e] X.env=[(false,eval e X.env)]:=by rfl):DI X tg (.Call (.Name "reversed" p) [e] [] pos) (Dm.BG f):=PI.weak (LZ hg hm h hs) fun _ _ _=>L7
theorem Pc(hg:Gl X "enumerate")(hm:X.mg "enumerate" = none)(h:DE X e f)(hs:starEach [e] X.env=[(false,eval e X.env)]:=by rfl):DI X (.Tuple elts x1 tp) (.Call (.Name "enumerate" p) [e] [] pos) (Dm.iEn f):=PI.weak (Hv hg hm h hs) fun _ _ _=>Pa
theorem Hz(hc:X.calm=true)(hgl:Gl X "list")(hml:X.mg "list" = none)(hg:Gl X "reversed")(hm:X.mg "reversed" = none)(h:DE X e f)(hs:starEach [e] X.env=[(false,eval e X.env)]:=by rfl)
  (hs0:starEach [.Call (.Name "reversed" p) [e] [] pos] X.env=[(false,eval (.Call (.Name "reversed" p) [e] [] pos) X.env)]:=by rfl) :
  DE X (.Call (.Name "list" p0) [.Call (.Name "reversed" p) [e] [] pos] [] qh) (Dm.e1 Dm.qf f):=PE.weak (DC hc hgl hml hg hm h hs hs0) fun _ _ _=>Rk DG
theorem L8(hc:X.calm=true)(hgl:Gl X "list")(hml:X.mg "list" = none)(hg:Gl X "range")(hm:X.mg "range" = none)(h:DA X [a] [fa])(hs:starEach [a] X.env=[(false,eval a X.env)]:=by rfl)
  (hs0:starEach [.Call (.Name "range" p) [a] [] pos] X.env=[(false,eval (.Call (.Name "range" p) [a] [] pos) X.env)]:=by rfl) :
  DE X (.Call (.Name "list" p0) [.Call (.Name "range" p) [a] [] pos] [] qh) (Dm.eB Dm.tS [fa]):=PE.weak (Hw hc hgl hml hg hm h hs hs0) fun _ _ _=>G3 Hy
end
end Br
namespace Dm
noncomputable def dm(i:Nat)(own:Nat)(bd:FB)(t:FT)(el:FE):FE:=fun ρ=>match ρ[i]? with
 | some (.ow (.lst ds))=>if ds.length≤SZ then (match fq bd t el ds (ρ.set i .un++Dp own .un) [] with
  |none=>none
  |some (ys,ρ2)=>some (.new (.lst ys),(ρ2.take ρ.length).set i (.ow (.lst ds)))) else none
 |_=>dH (iS (eV i)) own bd t el ρ
end Dm
namespace Br
open PySem PySem.Spec PyProof.Rows L2
theorem DJ{K:gV}{H0:Hp}{a:Addr}{xs:List V}{ds:List Dm.Dat}(rs:aH H0 xs ds):JWa (Itl K a) H0 (some (a,.lst xs)) ds:=by intro H0' H s0 s1 hq;have hq:=hq _ rfl;have q:SqL K H a xs:=.inl (.inl hq);refine⟨fun i hi=>⟨xs,q,by rw[rs.length];exact hi⟩,fun i d e=>?_⟩;obtain⟨v,hv,rv⟩:=rs.get e;refine⟨⟨xs,v,q,hv⟩,fun x H' y=>?_⟩;obtain⟨e1,y⟩:=y;subst e1;have z:=y xs q;rw[hv]at z;cases z;exact⟨H0',aQ.refl s1,rv.mono s0⟩
theorem HA{K:gV}{σ:L2.St}{H:Hp}{i own:Nat}{bd:Dm.FB}{g:TG}{t:Dm.FT}{el:Dm.FE}{is:List Nat}{Q:VK}(hb:BD is g bd)(hl:∀i∈is,σ.length<=i)(h:tD (Dm.dm i own bd t el) σ H Q) :
  tLC (fun σ H R=>vQ K (tD (Dm.eV i)) σ H R\/Cz K (tD (Dm.eV i)) σ H R) own g (tDT t) (tD el) σ H Q:=by
 obtain⟨H0,ρ,x,ρ',st,e,k⟩:=h;unfold Dm.dm at e;split at e
 ·rename_i ds eo;split at e
  case isFalse=>cases e
  rename_i hsz;split at e
  ·cases e
  rename_i ys ρ2 e2;cases e;refine .inl ⟨H0,ρ,.slot i,ρ,st,by unfold Dm.eV;rw[eo],fun v H0' H' t1 r=>?_⟩;obtain⟨a,qa,na,xs,ha,rs⟩:=t1.st.ow i _ eo;obtain⟨r1,_⟩:=r;rw[qa]at r1;cases r1;have nO:¬ao σ (ρ.set i .un) a:=fun z=>by obtain⟨j,d,hj,h1,h2⟩:=cP z;exact hj (t1.st.dis j i d _ a h1 eo h2 qa)
  have hlt:i<ρ.length:=(Sw.mp eo).1;refine⟨a,rfl,⟨xs,.inl (.inl ha)⟩,fun D hD=>p5 hb hl (t1.st.mask i) (fun q e=>by cases e;exact⟨ha,na,nO⟩) (DJ rs) hsz e2 (fun v H1 Hc t2 r2 hpa=>?_) D hD⟩;obtain⟨ha2,na2⟩:=hpa _ rfl;rw[S3]at t2 r2;have oo:∀b,ao σ ((ρ2.take ρ.length).set i (.ow (.lst ds))) b->b=a\/ao σ (ρ2.take ρ.length) b:=fun b ⟨j,d,h1,h2⟩=>by
   by_cases q:i=j
   ·subst q;rw[qa]at h2;cases h2;exact .inl rfl
   ·rw[eg q]at h1;exact .inr ⟨j,d,h1,h2⟩
  have om:∀b,ao σ (ρ.set i .un) b->ao σ ρ b:=fun b z=>by obtain⟨j,d,hj,h1,h2⟩:=cP z;exact⟨j,d,h1,h2⟩
  have oa:ao σ ρ a:=⟨i,_,eo,qa⟩
  have nO2:¬ao σ (ρ2.take ρ.length) a:=fun z=>nO (t2.own a z);have BI:(ρ2.take ρ.length).length=ρ.length:=by rw[<- t2.st.len,st.len]
  refine k v H1 Hc (t1.trans ⟨⟨t2.st.same,by rw[S3];exact t2.st.len,fun j d h=>?_,fun j d h=>?_,fun j j' d d' b h1 h2 h3 h4=>?_⟩,t2.stp.wide om,fun b z=>?_,fun j z=>?_⟩) ?_
  ·by_cases q:i=j
   ·subst q;rw[SS (by rw[BI];exact hlt)]at h;cases h
   ·rw[eg q]at h;exact t2.st.sh j d h
  ·by_cases q:i=j
   ·subst q;rw[SS (by rw[BI];exact hlt)]at h;cases h;exact⟨a,qa,na2,xs,ha2,rs.mono t2.stp.s0⟩
   ·rw[eg q]at h;exact t2.st.ow j d h
  ·by_cases q:i=j
   ·subst q;by_cases q':i=j'
    ·exact q'
    ·rw[eg q']at h2;rw[qa]at h3;cases h3;exact absurd ⟨j',d',h2,h4⟩ nO2
   ·rw[eg q]at h1;by_cases q':i=j'
    ·subst q';rw[qa]at h4;cases h4;exact absurd ⟨j,d,h1,h3⟩ nO2
    ·rw[eg q']at h2;exact t2.st.dis j j' d d' b h1 h2 h3 h4
  ·rcases oo b z with rfl | z
   ·exact oa
   ·exact om b (t2.own b z)
  ·trivial
  ·obtain⟨D',e',n',no',n0',w'⟩:=r2;refine⟨D',e',t1.stp.gone n',fun z=>?_,n0',w'⟩;rcases oo D' z with rfl | z
   ·rw[n']at ha;cases ha
   ·exact no' z
 ·have h2:=yS (fi:=Dm.iS (Dm.eV i)) hb hl ⟨H0,ρ,x,ρ',st,e,k⟩;exact O8 h2
section
variable{X:Cx}{elt tg:Expr}{ifs:List Expr}{scope:Scope}{pos px:Pos}{bd:Dm.FB}{is:List Nat}{t:Dm.FT}{f:Dm.FE}{x:Str}
theorem i_M(i:Nat)(h:DE X (.Name x px) (Dm.eV i)):PI X tg (.Name x px) (fun σ H R=>vQ X.K (tD (Dm.eV i)) σ H R\/Cz X.K (tD (Dm.eV i)) σ H R):=PI.or (z4 h) (CA h)
theorem nU(i:Nat)(nm own:List Str)(hg:TGc X nm scope own tg is bd)(hi:DE X (.Name x px) (Dm.eV i))(ht:∀cl C s H fp,DTs (bL X nm scope own cl C s H fp) ifs t)(he:∀cl C s H fp,DE (bL X nm scope own cl C s H fp) elt f)
  (hc:X.calm=true:=by rfl) (hk:scope.kind=.function:=by rfl) (hS:qe X.env.scope X.N nm scope=true:=by rfl) (hl:(is.all fun i=>decide (X.N.length<=i))=true:=by rfl) (hs:∀y,foldedSetIterable (.Name x px) X.env y=pure y:=by intro _;rfl) :
  DE X (.ListComp elt [⟨tg,.Name x px,ifs,0⟩] scope pos) (Dm.dm i own.length bd t f):=by
 obtain⟨g,h1,h2⟩:=hg.ex;intro pins s σ H Q I h;exact Ad hc (fK.of hS hk) (i_M i hi) h1 ht he hs pins s σ H Q I (HA h2 (fun i hi=>by rw[I.len];exact wk hl i hi) h)
end
end Br
namespace Dm
noncomputable def jN:List Dat->List Dat->List Dat
 |x::xs,y::ys=>.tup [x,y]::jN xs ys
 |_,_=>[]
noncomputable def HB(a b:FE):FI:=fun ρ=>match eAs [a,b] ρ with
 | some (vs,ρ1)=>(match tks ρ1 vs with
  |some ([.lst xs,.lst ys],ρ2)=>some (jN xs ys,ρ2)
  |_=>none)
 |none=>none
end Dm
namespace Br
open PySem PySem.Spec PyProof.Rows L2
theorem yW{X:Cx}{pins:List (Addr×Obj)}{σ:L2.St}{H:Hp}{s:Shared}{h':Heap}{t':Nat}{fp:List Addr}(I:Inv X pins σ H s)(hf:∀b∈fp,sI X pins H b)
  (k:∀b u,b∉fp->s.heap.get? b=some u->h'.get? b=some u):Inv X pins σ H { s with heap:=h',toks:=t' }:=by
 have nf:∀b u,H b=some u->b∉fp:=fun b u e z=>by rw[(hf b z).1]at e;cases e
 have nL:X.env.locals∉fp:=fun z=>(hf _ z).2.1 rfl;refine I.step (g':=s.gens) (d':=s.drawn) (ch:=fp) (fun b hb=>?_) (fun b u _ _ hc e _=>k b u hc e) (fun b u _ _ hc e _=>⟨u.slots,k b u hc e⟩)
  (fun b u _ e n=>n) (fun b u hc e=>⟨u,k b u hc e⟩)
  (fun b xs q=>q) (fun b u xs q=>q) (fun b ps q=>⟨#[],by rw[q];simp⟩) (fun m hm=>?_) (fun b u e=>?_) I.bare
 ·obtain⟨f0,f1,f2,f3,f4,f5⟩:=hf b hb;exact⟨f3,f1,f4,f5⟩
 ·obtain⟨o,es,ep,ho,r⟩:=hm;exact⟨o,es,ep,k _ o nL ho,r⟩
 ·refine(I.hok b u e).stay (fun c v hc q=>k c v ?_ q) (fun c q=>q) fun c xs q=>q;rcases hc with z | z
  ·rw[z];exact nf b u e
  ·exact nf c _ z
noncomputable def Itz(K:gV)(a b:Addr):It:=
 ⟨fun i H=>∃ xs ys x y,SqL K H a xs∧SqL K H b ys∧xs[i]?=some x∧ys[i]?=some y,
  fun i H r H'=>∃p x y,H p=none/\r=.ref p/\H'=upd H p (.tup [x,y])/\(∀xs,SqL K H a xs->xs[i]?=some x)/\∀ys,SqL K H b ys->ys[i]?=some y,
  fun i H=>∃xs ys,SqL K H a xs/\SqL K H b ys/\(xs.length<=i\/ys.length<=i)⟩
theorem i6{h:Heap}{a b:Addr}{o o':Obj}(ha:h.get? a=some o)(hb:h.get? b=some o')(n:o.cls≠o'.cls):a≠b:=fun z=>by subst z;rw[ha]at hb;cases hb;exact n rfl
structure uU(z TI TO i1 i2:Addr):Prop where
 TIz:TI≠z
 TOz:TO≠z
 i1z:i1≠z
 i2z:i2≠z
 TITO:TI≠TO
 TIi1:TI≠i1
 TIi2:TI≠i2
 TOi1:TO≠i1
 TOi2:TO≠i2
 i12:i1≠i2
noncomputable def DK(a b z TI TO i1 i2:Addr)(i:Nat)(h:Heap):Prop:=IsZip h z TI TO .none/\IsPair h TI (.ref i1) (.ref i2)/\(∃x y,IsPair h TO x y)/\h.IsListIter i1 a i/\h.IsListIter i2 b i
theorem wz{h:Heap}{a b z TI TO i1 i2:Addr}{i:Nat}{xs ys:Array Value}(F:uU z TI TO i1 i2)(st:DK a b z TI TO i1 i2 i h)(ha:h.IsList a xs)(hb:h.IsList b ys):ZipApart z TI TO i1 i2 a b:=by
 obtain⟨s1,s2,⟨x,y,s3⟩,s4,s5⟩:=st;obtain⟨o4,e4,c4,_⟩:=s4;obtain⟨o5,e5,c5,_⟩:=s5;obtain⟨oa,ea,ca,_⟩:=ha;obtain⟨ob,eb,cb,_⟩:=hb;have d:∀{n m:String},n≠m->(UU n)≠(UU m):=fun q z=>q (by injection z);exact ⟨F.TIz,F.TOz,F.i1z,F.i2z,F.TITO,F.TIi1,F.TIi2,F.TOi1,F.TOi2,F.i12,
  i6 ea s1 (by rw[ca];exact d (by decide)),i6 ea s3 (by rw[ca];exact d (by decide)),i6 ea e4 (by rw[ca,c4];exact d (by decide)),i6 ea e5 (by rw[ca,c5];exact d (by decide)),
  i6 eb s1 (by rw[cb];exact d (by decide)),i6 eb s3 (by rw[cb];exact d (by decide)),i6 eb e4 (by rw[cb,c4];exact d (by decide)),i6 eb e5 (by rw[cb,c5];exact d (by decide))⟩
theorem DL{P:Program}{w:World}{K:gV}{elts:List Expr}{x1}{tp:Pos}(a b z TI TO i1 i2:Addr)(F:uU z TI TO i1 i2):Turn P w K (.Tuple elts x1 tp) (Itz K a b) [z,TI,TO,i1,i2] z (DK a b z TI TO i1 i2) where
 mem:=by simp
 obj:=fun i h st c hc=>by
  obtain⟨s1,s2,⟨x,y,s3⟩,⟨o4,e4,c4,d4⟩,⟨o5,e5,c5,d5⟩⟩:=st;simp only[SH,T9,or_false]at hc;rcases hc with rfl | rfl | rfl | rfl | rfl
  ·exact⟨_,s1,fun v q=>by have q':VJ _=Vx v:=q;cases q'⟩
  ·exact⟨_,s2,fun v q=>by have q':Data.seq _ _=Vx v:=q;cases q'⟩
  ·exact⟨_,s3,fun v q=>by have q':Data.seq _ _=Vx v:=q;cases q'⟩
  ·exact⟨o4,e4,fun v q=>by rw[d4]at q;cases q⟩
  ·exact⟨o5,e5,fun v q=>by rw[d5]at q;cases q⟩
 keep:=fun i h h' st k=>by obtain⟨s1,s2,⟨x,y,s3⟩,s4,s5⟩:=st;exact⟨k z (by simp) _ s1,k TI (by simp) _ s2,⟨x,y,k TO (by simp) _ s3⟩,s4.at fun o q=>k i1 (by simp) o q,s5.at fun o q=>k i2 (by simp) o q⟩
 item:=by
  intro X hP hw hK hc i pins s σ H E I hf st hg;subst hP hw hK;obtain⟨xs,ys,x,y,hq,hq',hx,hy⟩:=hg;obtain⟨its,rv,p,hz⟩:=I.list hq;obtain⟨its',rv',p',hz'⟩:=I.list hq';obtain⟨u,hu,ru⟩:=rv.get hx;obtain⟨u',hu',ru'⟩:=rv'.get hy;have D:=wz F st p.isList p'.isList;obtain⟨s1,s2,⟨o1,o2,s3⟩,s4,s5⟩:=st;have lt:∀{c o},s.heap.get? c=some o->c<s.heap.objs.size:=fun q=>SD q;have l1:=lt s1;have l2:=lt s2;have l3:=lt s3;have l4:i1<s.heap.objs.size:=by obtain⟨_,q,_⟩:=s4;exact lt q
  have l5:i2<s.heap.objs.size:=by obtain⟨_,q,_⟩:=s5;exact lt q
  refine wpAny_pyNext_zip_item D s1 s2 s3 s4 s5 p.isList p'.isList (x:=u) (y:=u') (by simpa using hu) (by simpa using hu') fun h1 a1 a2 a3 a4 a5 a6 hk=>?_;refine⟨_,rfl,wpAny_letOwnedTupleGo_zip a1 fun h2 z2 hs2=>?_⟩;have ht2:h2.get? s.heap.objs.size=some { cls:=.type "tuple",data:=.seq #[u,u'] }:=(hs2.2 _ (Ux l1)).trans a5;have k2:∀c o,c∉[z,TI,TO,i1,i2]->s.heap.get? c=some o->h2.get? c=some o:=fun c o hc q=>by simp only[SH,T9,or_false,not_or]at hc;exact(hs2.2 c hc.1).trans (hk c o hc.1 hc.2.2.1 hc.2.2.2.1 hc.2.2.2.2 q)
  have hn:H s.heap.objs.size=none:=I.hok.fresh (Sz _);have I2:Inv X pins σ (upd H s.heap.objs.size (.tup [x,y])) { s with heap:=h2,toks:=s.toks }:=
   tT I hf k2 (Sz _) ⟨by simp[sizeLine],[u,u'],.cons ru (.cons ru' .nil),_,ht2,rfl,_,rfl⟩
  refine⟨.ref s.heap.objs.size,_,I2,rfl,⟨_,x,y,hn,rfl,rfl,fun vs hv=>by rw[I.iM hv hq];exact hx,fun vs hv=>by rw[I.iM hv hq'];exact hy⟩,⟨z2,?_,⟨_,_,hs2.extBut _ _ D.TOz a2⟩,?_,?_⟩,fun c hc=>?_⟩
  ·exact hs2.extBut _ _ D.TIz (hk TI _ D.TIz D.TITO D.TIi1 D.TIi2 s2)
  ·exact a3.extBut hs2.extBut D.i1z
  ·exact a4.extBut hs2.extBut D.i2z
  ·have hc1:c≠s.heap.objs.size:=fun q=>by
    simp only[SH,T9,or_false]at hc;rcases hc with r | r | r | r | r
    ·subst r;rw[q]at l1;exact Tq _ l1
    ·subst r;rw[q]at l2;exact Tq _ l2
    ·subst r;rw[q]at l3;exact Tq _ l3
    ·subst r;rw[q]at l4;exact Tq _ l4
    ·subst r;rw[q]at l5;exact Tq _ l5
   rw[aj hc1];exact(hf c hc).1
 done:=by
  intro X hP hw hK hc i pins s σ H E I hf st hg;subst hP hw hK;obtain⟨xs,ys,hq,hq',hx⟩:=hg;obtain⟨its,rv,p,hz⟩:=I.list hq;obtain⟨its',rv',p',hz'⟩:=I.list hq';have hl:=rv.length;have hl':=rv'.length;have D:=wz F st p.isList p'.isList;obtain⟨s1,s2,⟨o1,o2,s3⟩,s4,s5⟩:=st;refine wpAny_pyNext_zip_end (I.ok.hd hc) D s1 s2 s3 s4 s5 p.isList p'.isList ?_ fun h' hk=>⟨rfl,yW (t':=s.toks) I hf fun c o hc q=>?_⟩
  ·rcases hx with hx | hx
   ·exact .inl (by simp;omega)
   ·exact .inr (by simp;omega)
  ·simp only[SH,T9,or_false,not_or]at hc;exact hk c o hc.1 hc.2.2.1 hc.2.2.2.1 hc.2.2.2.2 q
 self:=fun A i s Q E st h=>wpAny_pyIter_zip st.1 h
noncomputable def JH(K:gV)(ta:TA):TI:=fun σ H R=>ta σ H fun vs H1=>∃a b,vs=[.ref a,.ref b]/\(∃xs,SqL K H1 a xs)/\(∃ys,SqL K H1 b ys)/\R (Itz K a b) H1
section
variable{X:Cx}{l l':Expr}{ta:TA}{p pos:Pos}{elts:List Expr}{x1:Nat}{tp:Pos}
theorem L_(hg:Gl X "zip")(hm:X.mg "zip" = none)(ha:PA X [l,l'] ta)(hs:starEach [l,l'] X.env=(false,eval l X.env)::starEach [l'] X.env:=by rfl)(hs2:(backTo pos (starEach [l'] X.env)).any (·.1)=false:=by rfl) :
  PI X (.Tuple elts x1 tp) (.Call (.Name "zip" p) [l,l'] [] pos) (JH X.K ta):=by
 intro pins s σ H R I h;refine Call_ (fH I hg hm boot_zip (Tj (thn (ha pos pins s σ H _ I h) fun us s1 ⟨vs,H1,I1,r1,q1⟩=>?_) hs hs2));obtain⟨a,b,e,⟨xs,hq⟩,⟨ys,hq'⟩,q⟩:=q1;subst e;obtain⟨v1,v2,rfl,r,r'⟩:=vals2 r1;cases r;cases r';obtain⟨its,rv,pl,hz⟩:=I1.list hq;obtain⟨its',rv',pl',hz'⟩:=I1.list hq';refine call_zip_2 pl.isList pl'.isList fun h' e1 e2 e3 e4 e5 hsz k=>?_;have I2:Inv X pins σ H1 { s1 with heap:=h' }:=I1.kept (t':=s1.toks) k;have F:uU (s1.heap.objs.size+4) (s1.heap.objs.size+2) (s1.heap.objs.size+3) s1.heap.objs.size (s1.heap.objs.size+1):=by constructor<;>first | exact S0 (by omega) | exact Ux (by omega)
 have T:=DL (P:=X.prog) (w:=X.w) (K:=X.K) (elts:=elts) (x1:=x1) (tp:=tp) a b _ _ _ _ _ F;have st:DK a b (s1.heap.objs.size+4) (s1.heap.objs.size+2) (s1.heap.objs.size+3) s1.heap.objs.size (s1.heap.objs.size+1) 0 h':=⟨e1,e2,⟨_,_,e3⟩,e4,e5⟩
 refine T.self X.A 0 { s1 with heap:=h' } _ X.xe st ?_;refine⟨s1.heap.objs.size+4,_,_,_,H1,rfl,I2,T,st,fun c hc=>?_,q⟩;have:s1.heap.objs.size<=c:=by simp only[SH,T9,or_false]at hc;rcases hc with r | r | r | r | r<;>(rw[r];first | exact Nat.le_add_right _ _ | exact Sz _)
 exact I1.vP this (I1.hok.fresh this)
end
theorem Ak:∀(xs ys:List Dm.Dat),(Dm.jN xs ys).length=min xs.length ys.length
 |[],_=>by simp[Dm.jN]
 |_::_,[]=>by simp[Dm.jN]
 |x::xs,y::ys=>by simp[Dm.jN,Ak xs ys]
theorem zip_get:∀(xs ys:List Dm.Dat) (j:Nat) (d:Dm.Dat),(Dm.jN xs ys)[j]?=some d->∃x y,xs[j]?=some x/\ys[j]?=some y/\d=.tup [x,y]
 |[],_,_,_,h=>by simp[Dm.jN]at h
 |_::_,[],_,_,h=>by simp[Dm.jN]at h
 |x::xs,y::ys,0,d,h=>by cases h;exact⟨x,y,rfl,rfl,rfl⟩
 |x::xs,y::ys,j+1,d,h=>zip_get xs ys j d h
theorem Ma{K:gV}{H0:Hp}{a b:Addr}{xs ys:List V}{ds es:List Dm.Dat}(hq:Rd H0 a (.lst xs))(rs:aH H0 xs ds)(hq':Rd H0 b (.lst ys))(rs':aH H0 ys es):JW (Itz K a b) H0 (Dm.jN ds es):=by
 intro H0' H s0 s1;have q:SqL K H a xs:=.inl (av.rd s1 (av.rd s0 hq));have q':SqL K H b ys:=.inl (av.rd s1 (av.rd s0 hq'));refine⟨fun i hi=>⟨xs,ys,q,q',?_⟩,fun i d e=>?_⟩
 ·rw[Ak]at hi;have:=rs.length;have:=rs'.length;omega
 obtain⟨x,y,hx,hy,rfl⟩:=zip_get ds es i d e;obtain⟨v,hv,rv⟩:=rs.get hx;obtain⟨v',hv',rv'⟩:=rs'.get hy;refine⟨⟨xs,ys,v,v',q,q',hv,hv'⟩,fun r H' z=>?_⟩;obtain⟨p,u,u',hn,rfl,rfl,z1,z2⟩:=z;have w1:=z1 xs q;have w2:=z2 ys q';rw[hv]at w1;rw[hv']at w2;cases w1;cases w2;have g:=aQ.Bv (o:=HO.tup [v,v']) s1 hn;exact⟨_,g,.tup au (.cons ((rv.mono s0).mono g.s0) (.cons ((rv'.mono s0).mono g.s0) .nil))⟩
section
variable{σ:L2.St}{H:Hp}{R:It->Hp->Prop}
theorem Mb{K:gV}{f g:Dm.FE}(h:tDI (Dm.HB f g) σ H R):JH K (tDA [f,g]) σ H R:=by
 obtain⟨H0,ρ,ys,ρ',st,e,k⟩:=h;unfold Dm.HB at e;split at e
 ·rename_i vs ρ1 e1;split at e
  ·rename_i xs zs ρ2 e2;cases e;refine⟨H0,ρ,vs,ρ1,st,e1,fun us H0' H' t r=>?_⟩;obtain⟨H1,t1,b1,r1⟩:=takes t (av.refl _) r e2;cases r1 with
   |cons q1 rr=>
    cases rr with
    |cons q2 rr=>
     cases rr;cases q1 with
     |lst q rs=>
      cases q2 with
      |lst q' rs'=>exact⟨_,_,rfl,⟨_,.inl (av.rd t1.st.same q)⟩,⟨_,.inl (av.rd t1.st.same q')⟩,k _ H1 H' t1 (Ma q rs q' rs')⟩
  ·cases e
 ·cases e
end
section
variable{X:Cx}{a b:Expr}{fa fb:Dm.FE}{p pos:Pos}{elts:List Expr}{x1:Nat}{tp:Pos}
theorem Pd(hg:Gl X "zip")(hm:X.mg "zip" = none)(ha:DA X [a,b] [fa,fb])(hs:starEach [a,b] X.env=(false,eval a X.env)::starEach [b] X.env:=by rfl)(hs2:(backTo pos (starEach [b] X.env)).any (·.1)=false:=by rfl) :
  DI X (.Tuple elts x1 tp) (.Call (.Name "zip" p) [a,b] [] pos) (Dm.HB fa fb):=PI.weak (L_ hg hm ha hs hs2) fun _ _ _=>Mb
end
end Br
namespace Dm
noncomputable def fnM(n m:Nat)(body:FS)(ds:List Dat):Option (RV×Dat):=if ds.length=n then (match ds with
 | d::r=>(match body (Cell.ow d::(r.map Cell.sh++Dp m .un)) with
  | some (.ret z ρ')=>(match ρ'[0]? with
   |some (Cell.ow d')=>some (z,d')
   |_=>none)
  | some (.nx ρ')=>(match ρ'[0]? with
   |some (Cell.ow d')=>some (.val .non,d')
   |_=>none)
  |_=>none)
 |[]=>none) else none
noncomputable def flat:Dat->Bool
 |.tup xs=>xs.all fun x=>!iA x
 |d=>!iA d
noncomputable def yX:Dat->Bool
 |.lst xs=>xs.all fun x=>!iA x
 |_=>false
noncomputable def eFm(f:List Dat->Option (RV×Dat))(j:Nat)(as:List FE):FE:=fun ρ=>match ρ[j]? with
 | some (.ow _)=>(match eAs as ρ with
  |none=>none
  | some (xs,ρ1)=>(match ρ1[j]? with
   | some (.ow d1)=>(match tks ρ1 xs with
    |none=>none
    | some (ds,ρ2)=>(match ρ2[j]? with
     | some (.ow d)=>(match f (d::ds) with
      |none=>none
      |some (v,d')=>if flat v.dat&&yX d' then some (v.cj,ρ1.set j (.ow d')) else some (v.cj,ρ2.set j (.ow d')))
     |_=>none))
   |_=>none))
 |_=>none
end Dm
namespace Br
open PySem PySem.Spec PyProof.Rows L2
noncomputable def spM(f:List Dm.Dat->Option (Dm.RV×Dm.Dat)):Sp:=fun vs H Q _=>∃H0 a us d ds z d',vs=V.ref a::us/\av H0 H/\H0 a=none/\Own H0 H a d/\aH H0 us ds/\f (d::ds)=some (z,d') /\
 ∀v H0' H',Stp (fun b=>b=a) H0 H H0' H'->av H0' H'->H0' a=none->Own H0' H' a d'->wc H H0' H' v z->Q v H'
theorem fR{n m:Nat}{body:Dm.FS}{vs:List V}{H:Hp}{Q:VK}{E:XK}(h:spM (Dm.fnM n m body) vs H Q E):vs.length=n:=by
 obtain⟨H0,a,us,d,ds,z,d',e,_,_,_,rs,ef,_⟩:=h;unfold Dm.fnM at ef;split at ef
 ·rename_i hl;rw[e,Tt,rs.length]
  simpa using hl
 ·cases ef
theorem az.jD{H0 H:Hp}{σ:L2.St}{ρ:Dm.Env}{j:Nat}{a:Addr}{d:Dm.Dat}(st:az H0 H σ ρ)(q:σ[j]?=some (some (V.ref a)))(no:¬ao σ ρ a)(n0:H0 a=none)(w:Own H0 H a d):az H0 H σ (ρ.set j (.ow d)):=by
 have:=st.yQ (i:=j) no n0 w;have e:σ.set j (some (V.ref a))=σ:=by
  apply Vp;intro i;by_cases h:j=i
  ·subst h;have hl:j<σ.length:=(Sw.mp q).1;rw[SS hl,q]
  ·rw[eg h]
 rw[e]at this;exact this
theorem az.off{H0 H H0' H':Hp}{σ:L2.St}{ρ:Dm.Env}{a:Addr}(st:az H0 H σ ρ)(s0:av H0 H0')(ss:av H0' H')(no:¬ao σ ρ a)(s1:∀b o,H b=some o->b≠a->H' b=some o)(s2:∀(i:Nat) (d:Dm.Dat) (b:Addr),ρ[i]?=some (Dm.Cell.ow d)->σ[i]?=some (some (V.ref b))->H0' b=none):az H0' H' σ ρ where
 same:=ss
 len:=st.len
 sh:=fun i d e=>by obtain⟨v,q,r⟩:=st.sh i d e;exact⟨v,q,r.mono s0⟩
 ow:=fun i d e=>by obtain⟨b,q,n,w⟩:=st.ow i d e;obtain⟨o,z⟩:=w.some;have nb:b≠a:=fun y=>no ⟨i,d,e,y▸q⟩;exact⟨b,q,s2 i d b e q,w.mono s0 ((s1 b o z nb).trans z.symm)⟩
 dis:=st.dis
theorem gW{H0 H1:Hp}:∀{xs:List V} {ds:List Dm.Dat},aH H0 xs ds->(ds.all fun x=>!Dm.iA x)=true->aH H1 xs ds
 |_,_,.nil,_=>.nil
 |_,_,.cons r rs,h=>by rw[VG,Td]at h;exact .cons (Rep.plain r (by simpa using h.1)) (gW rs h.2)
section
variable{σ:L2.St}{H:Hp}{Q:VK}
theorem HC{f:List Dm.Dat->Option (Dm.RV×Dm.Dat)}{j:Nat}{fs:List Dm.FE}{E:XK}(h:tD (Dm.eFm f j fs) σ H Q):tF (spM f) [] E (tDA (Dm.eV j::fs)) σ H Q:=by
 obtain⟨H0,ρ,x,ρ',st,e,k⟩:=h;unfold Dm.eFm at e;split at e
 case h_2=>cases e
 rename_i d0 h0;split at e
 ·cases e
 rename_i xs ρ1 e1;split at e
 case h_2=>cases e
 rename_i d1 h1;split at e
 ·cases e
 rename_i ds ρ2 e2;split at e
 case h_2=>cases e
 rename_i d h2;split at e
 ·cases e
 rename_i z d' fz;have ea:Dm.eAs (Dm.eV j::fs) ρ=some (.slot j::xs,ρ1):=by unfold Dm.eAs;rw[show Dm.eV j ρ=some (.slot j,ρ) from by unfold Dm.eV;rw[h0]];dsimp only;rw[e1]
 refine⟨H0,ρ,.slot j::xs,ρ1,st,ea,fun vs H1 Hb t1 r1=>?_⟩;dsimp only;rw[Tz];cases r1 with
 |cons r0 rr=>
  obtain⟨H2,t2,b2,r2⟩:=takes t1 (av.refl _) rr e2;obtain⟨a,qa,na,wa⟩:=t2.st.ow j d h2;obtain⟨q0,_⟩:=r0;rw[qa]at q0;cases q0;obtain⟨a1,qa1,na1,wa1⟩:=t1.st.ow j d1 h1;rw[qa]at qa1;cases qa1;obtain⟨oa,ha⟩:=wa.some;have hl2:j<ρ2.length:=(Sw.mp h2).1;have hl1:j<ρ1.length:=(Sw.mp h1).1;have oa0:ao σ ρ a:=t1.own a ⟨j,d1,h1,qa⟩;refine⟨H2,a,_,d,ds,z,d',rfl,t2.st.same,na,wa,r2,fz,fun v H3 Hd s3 ss n3 w3 r3=>?_⟩;have no2:¬ao σ (ρ2.set j .un) a:=fun y=>by obtain⟨i,d4,hi,y1,y2⟩:=cP y;exact hi (t2.st.dis i j d4 d a y1 h2 y2 qa)
  have no1:¬ao σ (ρ1.set j .un) a:=fun y=>by obtain⟨i,d4,hi,y1,y2⟩:=cP y;exact hi (t1.st.dis i j d4 d1 a y1 h1 y2 qa)
  split at e
  ·rename_i fl;cases e;rw[Td]at fl;obtain⟨f1,f2⟩:=fl;have wp:∀H',Own H' Hd a d':=fun H'=>by
    cases d' with
    |lst ys=>obtain⟨us,y1,y2⟩:=w3;exact⟨us,y1,gW y2 f2⟩
    |_=>cases f2
   have fin:∀H1':Hp,av H1 H1'->av H1' Hd->(∀b o,H1' b=some o->H1 b=some o\/((∃us,o=.tup us)/\H3 b=some o))->iI H H1' Hd σ (ρ1.set j (.ow d')) v z.cj->Q v Hd:=fun H1' m1 m2 m3 rv=>by
    have hd3:∀b,H1' b≠none->b≠a:=fun b hb y=>by
     subst y;cases y2:H1' b with
     |none=>exact hb y2
     |some o=>
      rcases m3 b o y2 with y3 | ⟨_,y3⟩
      ·rw[na1]at y3;cases y3
      ·rw[n3]at y3;cases y3
    have n1':H1' a=none:=by
     cases y:H1' a with
     |none=>rfl
     |some o=>exact absurd rfl (hd3 a (by rw[y];exact fun q=>nomatch q))
    have sm:az H1' Hd σ (ρ1.set j .un):=by
     refine(t1.st.mask j).off m1 m2 no1 (fun b o y nb=>s3.s1 b o y nb) fun i d4 b y1 y2=>?_;obtain⟨b',q',nb',w'⟩:=(t1.st.mask j).ow i d4 y1;rw[y2]at q';cases q';cases y:H1' b with
     |none=>rfl
     |some o=>
      rcases m3 b o y with y3 | ⟨⟨us,y4⟩,y3⟩
      ·rw[nb']at y3;cases y3
      ·subst y4;have nb:b≠a:=hd3 b (by rw[y];exact fun q=>nomatch q);cases d4 with
       |lst _=>obtain⟨ws,z1,_⟩:=w';have z2:=s3.s1 b _ z1 nb;rw[ss _ _ y3]at z2;cases z2
       |dct _ _=>obtain⟨ws,z1,_⟩:=w';have z2:=s3.s1 b _ z1 nb;rw[ss _ _ y3]at z2;cases z2
       |_=>exact SQ w'
    have sf:az H1' Hd σ (ρ1.set j (.ow d')):=by have:=sm.jD qa no1 n1' (wp H1');rw[List.set_set]at this;exact this
    refine k v H1' Hd ⟨sf,⟨t1.stp.s0.trans m1,fun b o y nb=>?_,fun b o y=>?_,fun b o y=>?_⟩,fun b y=>?_,fun i y=>?_⟩ rv
    ·have y1:=t1.stp.s1 b o y nb;exact s3.s1 b o y1 fun q=>nb (by rw[q];exact oa0)
    ·rcases m3 b o y with y3 | ⟨_,y3⟩
     ·exact t1.stp.s2 b o y3
     ·rcases s3.s2 b o y3 with y4 | y4 | y4
      ·exact .inl (t1.stp.gone y4)
      ·exact t2.stp.s2 b o y4
      ·subst y4;rw[n3]at y3;cases y3
    ·obtain⟨o',y1⟩:=t1.stp.s3 b o y;exact s3.s3 b o' y1
    ·obtain⟨i,d4,y1,y2⟩:=y;by_cases hi:j=i
     ·subst hi;rw[qa]at y2;cases y2;exact oa0
     ·rw[eg hi]at y1;exact t1.own b ⟨i,d4,y1,y2⟩
    ·trivial
   have m0:av H1 Hd:=fun b o y=>s3.s1 b o (t1.st.same _ _ y) fun q=>by rw[q,na1]at y;cases y
   cases z with
   |new d4=>
    obtain⟨_,_,_,_,w⟩:=r3;cases d4 with
    |lst _=>cases f1
    |dct _ _=>cases f1
    |_=>exact SQ w
   |val d4=>
    have r3':Rep H3 v d4:=r3;cases d4 with
    |tup es=>
     cases r3' with
     |tup q rs=>
      rename_i a2 us;have rp:aH H1 us es:=gW rs f1;refine fin (upd H1 a2 (.tup us)) (fun b o y=>?_) (fun b o y=>?_) (fun b o y=>?_) (.tup au (gW rs f1))
      ·by_cases hb:b=a2
       ·subst hb;have:=s3.s0 _ _ (b2 _ _ y);rw[q]at this;rw[au,this]
       ·rw[aj hb];exact y
      ·by_cases hb:b=a2
       ·subst hb;rw[au]at y;cases y;exact ss _ _ q
       ·rw[aj hb]at y;exact m0 _ _ y
      ·by_cases hb:b=a2
       ·subst hb;rw[au]at y;cases y;exact .inr ⟨⟨us,rfl⟩,q⟩
       ·rw[aj hb]at y;exact .inl y
    |lst _=>cases f1
    |dct _ _=>cases f1
    |exc _=>cases f1
    |fn _=>exact fin H1 (av.refl _) m0 (fun b o y=>.inl y) (Rep.plain r3' rfl)
    |non=>exact fin H1 (av.refl _) m0 (fun b o y=>.inl y) (Rep.plain r3' rfl)
    |bl _=>exact fin H1 (av.refl _) m0 (fun b o y=>.inl y) (Rep.plain r3' rfl)
    |int _=>exact fin H1 (av.refl _) m0 (fun b o y=>.inl y) (Rep.plain r3' rfl)
    |str _=>exact fin H1 (av.refl _) m0 (fun b o y=>.inl y) (Rep.plain r3' rfl)
  ·cases e;have sm:az H3 Hd σ (ρ2.set j .un):=by
    refine(t2.st.mask j).off s3.s0 ss no2 (fun b o y nb=>s3.s1 b o y nb) fun i d4 b y1 y2=>?_;obtain⟨b',q',nb',w'⟩:=(t2.st.mask j).ow i d4 y1;rw[y2]at q';cases q';obtain⟨ob,hob⟩:=w'.some;cases y:H3 b with
    |none=>rfl
    |some o=>
     rcases s3.s2 b o y with y3 | y3 | y3
     ·rw[hob]at y3;cases y3
     ·rw[nb']at y3;cases y3
     ·exact absurd ⟨i,d4,y1,y3▸y2⟩ no2
   have sf:az H3 Hd σ (ρ2.set j (.ow d')):=by have:=sm.jD qa no2 n3 w3;rw[List.set_set]at this;exact this
   have of:∀b,ao σ (ρ2.set j (.ow d')) b->b=a\/ao σ ρ2 b:=fun b ⟨i,d4,y1,y2⟩=>by
    by_cases hi:j=i
    ·subst hi;rw[qa]at y2;cases y2;exact .inl rfl
    ·rw[eg hi]at y1;exact .inr ⟨i,d4,y1,y2⟩
   refine k v H3 Hd ⟨sf,t2.stp.trans s3 (fun b y=>.inl (y▸oa0)),fun b y=>?_,fun i y=>?_⟩ ?_
   ·rcases of b y with y | y
    ·exact y▸oa0
    ·exact t2.own b y
   ·trivial
   ·cases z with
    |val d4=>exact r3
    |new d4=>
     obtain⟨b,y0,y1,y2,y3⟩:=r3;refine⟨b,y0,t2.stp.gone y1,fun y=>?_,y2,y3⟩;rcases of b y with y | y
     ·subst y;rw[ha]at y1;cases y1
     ·exact t2.st.bX y1 y
end
theorem bz{X:Cx}{es:List Expr}{p pos px:Pos}{k:Nat}{F:Addr}{fd:FuncData}{ps:List Str}{g:List Dm.Dat->Option (Dm.RV×Dm.Dat)}{x y:Str}{j:Nat}{fs:List Dm.FE}(G:aV X.prog X.w X.K X.mg X.base CX0 k F fd ps (spM g))(hr:b5 k X.A)(hg:Gl X x)(hm:X.mg x=some (.ref F))(hk:Tw X.K (.ref F)=true)(hb:Binds X.K fd ps [])
  (ha:DA X (.Name y px::es) (Dm.eV j::fs)) (hdb:(x == ("__debug__" : Str))=false:=by decide) (he:starEach (.Name y px::es) X.env=(false,eval (.Name y px) X.env)::starEach es X.env:=by rfl) (hpl:(backTo pos (starEach es X.env)).any (·.1)=false:=by rfl) :
  DE X (.Call (.Name x p) (.Name y px::es) [] pos) (Dm.eFm g j fs):=PE.weak (lU G hr hg hm hk hb .nil (vY (X:=X)) ha hdb he hpl) fun _ _ _=>HC
theorem nV{N:List Str}{n m:Nat}{body:Dm.FS}{vs:List V}{H:Hp}{Q:VK}{E:XK}(hm:N.length=n+m)(h:spM (Dm.fnM n m body) vs H Q E) :
  tDS body { nx:=fun _ H'=>Q .non H',rt:=Q } (start N vs) H:=by
 have hvn:=fR h;obtain⟨H0,a,us,d,ds,z,d',e,s,na,wa,rs,ef,k⟩:=h;subst e;have hl:=rs.length;rw[Tt]at hvn;have e0:(start N (V.ref a::us))[0]?=some (some (V.ref a)):=rfl;have get:∀{i:Nat} {c:Dm.Cell},(Dm.Cell.ow d::(ds.map Dm.Cell.sh++Dp m .un))[i]?=some c->(i=0/\c=.ow d)\/(∃i' d4,i=i'+1/\ds[i']?=some d4/\c=.sh d4)\/c=.un:=fun {i c} y=>by
  cases i with
  |zero=>cases y;exact .inl ⟨rfl,rfl⟩
  |succ i=>
   rw[TZ]at y;by_cases hi:i<ds.length
   ·rw[SG (by simpa using hi),SM,SI hi]at y;cases y;exact .inr (.inl ⟨i,ds[i],rfl,SI hi,rfl⟩)
   ·rw[SW (by simpa using hi),S8]at y;split at y
    ·cases y;exact .inr (.inr rfl)
    ·cases y
 have ow0:∀{i:Nat} {d4:Dm.Dat},(Dm.Cell.ow d::(ds.map Dm.Cell.sh++Dp m .un))[i]?=some (.ow d4)->i=0/\d4=d:=fun {i d4} y=>by
  rcases get y with⟨y1,y2⟩ | ⟨_,_,_,_,y2⟩ | y2
  ·cases y2;exact⟨y1,rfl⟩
  ·cases y2
  ·cases y2
 have oa:∀b,ao (start N (V.ref a::us)) (Dm.Cell.ow d::(ds.map Dm.Cell.sh++Dp m .un)) b->b=a:=fun b ⟨i,d4,y1,y2⟩=>by obtain⟨y3,_⟩:=ow0 y1;subst y3;rw[e0]at y2;cases y2;rfl
 have st:az H0 H (start N (V.ref a::us)) (Dm.Cell.ow d::(ds.map Dm.Cell.sh++Dp m .un)):=by
  refine⟨s,?_,fun i d4 y=>?_,fun i d4 y=>?_,fun i i' d4 d5 b y1 y2 _ _=>(ow0 y1).1.trans (ow0 y2).1.symm⟩
  ·unfold L2.start;simp only[SK,Sx,Us,Tt];omega
  ·rcases get y with⟨_,y2⟩ | ⟨i',d5,y1,y2,y3⟩ | y2
   ·cases y2
   ·cases y3;subst y1;obtain⟨v,hv,r⟩:=rs.get y2;refine⟨v,?_,r⟩;have hi:i'<us.length:=(Sw.mp hv).1;unfold L2.start;rw[SG (by simp;omega),SM,TZ,hv];rfl
   ·cases y2
  ·obtain⟨y1,y2⟩:=ow0 y;subst y1 y2;exact⟨a,e0,na,wa⟩
 have fin:∀{σ':L2.St} {ρ':Dm.Env} {H0' H':Hp},SSt (start N (V.ref a::us)) (Dm.Cell.ow d::(ds.map Dm.Cell.sh++Dp m .un)) H0 H σ' ρ' H0' H'->ρ'[0]?=some (.ow d')->Stp (fun b=>b=a) H0 H H0' H'/\H0' a=none/\Own H0' H' a d'/\ao σ' ρ' a:=fun {σ' ρ' H0' H'} t y=>by obtain⟨a',q',n',w'⟩:=t.st.ow 0 d' y;have fx:=t.fx;rw[e0,q']at fx;cases fx;exact⟨t.stp.wide fun b z=>oa b z,n',w',0,d',y,q'⟩
 unfold Dm.fnM at ef;split at ef
 case isFalse=>cases ef
 dsimp only at ef;split at ef
 ·rename_i z' ρ' e1;split at ef
  case h_2=>cases ef
  rename_i d4 y;cases ef;refine⟨H0,_,_,st,e1,fun σ' v H0' H' t r no=>?_⟩;obtain⟨f1,f2,f3,f4⟩:=fin t y;refine k v H0' H' f1 t.st.same f2 f3 ?_;cases z with
  |val d5=>exact r
  |new d5=>
   obtain⟨b,y0,y1,y2,y3⟩:=r;refine⟨b,y0,?_,y2,y3⟩;rcases y1 with y1 | y1
   ·exact y1
   ·exact absurd f4 (oa b y1▸no d5 b rfl y0)
 ·rename_i ρ' e1;split at ef
  case h_2=>cases ef
  rename_i d4 y;cases ef;refine⟨H0,_,_,st,e1,fun σ' H0' H' t=>?_⟩;obtain⟨f1,f2,f3,f4⟩:=fin t y;exact k _ H0' H' f1 t.st.same f2 f3 .non
 ·cases ef
end Br
namespace Dm
noncomputable def cL:List Int->List Dat->Int->Option Dat
 |k::ks,v::vs,i=>if k=i then some v else cL ks vs i
 |_,_,_=>none
noncomputable def Al:List Int->List Dat->Int->Dat->List Dat
 |k::ks,v::vs,i,d=>(if k=i then d else v)::Al ks vs i d
 |_,_,_,_=>[]
noncomputable def nW(ks:List Int)(i:Int):List Int:=if (ks.any fun k=>decide (k=i))=true then ks else ks++[i]
noncomputable def nX(ks:List Int)(vs:List Dat)(i:Int)(d:Dat):List Dat:=if (ks.any fun k=>decide (k=i))=true then Al ks vs i d else vs++[d]
noncomputable def eDn:FE:=fun ρ=>some (.new (.dct [] []),ρ)
noncomputable def gDx:Dat->Dat->Option RV
 |.dct ks vs,.int i=>(cL ks vs i).map .val
 |_,_=>none
noncomputable def BJ:Dat->Dat->Option RV
 |.int i,.dct ks vs=>vB (cL ks vs i).isSome
 |_,_=>none
noncomputable def wA:Dat->Dat->Option RV
 |.int i,.dct ks vs=>vB (!(cL ks vs i).isSome)
 |_,_=>none
noncomputable def nY(a b:FE):FE:=fun ρ=>match a ρ with
 |none=>none
 |some (x,ρ1)=>match pk ρ1 x with
  | some (.dct _ _)=>(match b ρ1 with
   |none=>none
   |some (y,ρ2)=>match pk ρ2 x with
    | some (.dct ks vs)=>(match pk ρ2 y with
     |some (.int i)=>some (.val ((cL ks vs i).getD .non),ρ2)
     |_=>none)
    |_=>none)
  |_=>none
noncomputable def eD1(a b:FE):FE:=fun ρ=>match a ρ with
 | some (.val (.int i),ρ1)=>(match b ρ1 with
  |none=>none
  |some (x,ρ2)=>match tk ρ2 x with
   |none=>none
   |some (d,ρ3)=>some (.new (.dct [i] [d]),ρ3))
 |_=>none
noncomputable def qi(i:Nat)(j e:FE):FS:=fun ρ=>match e ρ with
 |none=>none
 |some (x,ρ1)=>match tk ρ1 x with
  |none=>none
  |some (d,ρ2)=>match ρ2[i]? with
   | some (.ow _)=>(match j ρ2 with
    | some (.val (.int k),ρ3)=>(match ρ3[i]? with
     |some (.ow (.dct ks vs))=>if ks.length<SZ then some (.nx (ρ3.set i (.ow (.dct (nW ks k) (nX ks vs k d))))) else none
     |_=>none)
    |_=>none)
   |_=>none
end Dm
namespace Br
open PySem PySem.Spec PyProof.Rows L2
theorem fZ{H0 H:Hp}(s:av H0 H){v:V}{ks:List Int}{ds:List Dm.Dat}(r:nq H0 H v (.dct ks ds)):∃a kvs,v=.ref a/\H a=some (.dK kvs)/\kvs.map (·.1)=ks.map SX/\aH H0 (kvs.map (·.2)) ds:=by
 rcases r with r | ⟨a,e,kvs,q,ek,rs⟩
 ·cases r with
  |dct q ek rs=>exact⟨_,_,rfl,s _ _ q,ek,rs⟩
 ·exact⟨a,kvs,e,q,ek,rs⟩
theorem uV{a b:Int}(h:¬a=b):¬(SX a:Key)=SX b:=fun q=>h (Sum.inl.inj q)
theorem jE{H0:Hp}(i:Int):∀{kvs:List (Key×V)} {ks:List Int} {ds:List Dm.Dat},kvs.map (·.1)=ks.map SX->aH H0 (kvs.map (·.2)) ds ->
  (∃d v,Dm.cL ks ds i=some d/\fP kvs (SX i)=some v/\Rep H0 v d)\/(Dm.cL ks ds i=none/\fP kvs (SX i)=none)
 |[],[],_,_,r=>by cases r;exact .inr ⟨rfl,rfl⟩
 |[],_::_,_,e,_=>by cases e
 |_::_,[],_,e,_=>by cases e
 |(k0,v0)::kvs,k::ks,_,e,r=>by
  rw[Dk]at r;cases r with
  |cons r0 rr=>
   rw[Dk,Dk]at e;injection e with e1 e2
   have e1:k0=SX k:=e1;subst e1;unfold Dm.cL;by_cases h:k=i
   ·subst h;rw[if_pos rfl];exact .inl ⟨_,v0,rfl,iQ rfl,r0⟩
   ·rw[if_neg h,gJ (uV h)];exact jE i e2 rr
theorem DM(i:Int):∀{kvs:List (Key×V)} {ks:List Int},kvs.map (·.1)=ks.map SX->(kvs.any fun kv=>decide (kv.1=SX i))=(ks.any fun k=>decide (k=i))
 |[],[],_=>rfl
 |[],_::_,e=>by cases e
 |_::_,[],e=>by cases e
 |(k0,v0)::kvs,k::ks,e=>by
  rw[Dk,Dk]at e;injection e with e1 e2
  have e1:k0=SX k:=e1;subst e1;rw[Ui,Ui,DM i e2]
  congr 1
  by_cases h:k=i
  ·subst h;simp
  ·have:=uV h;simp[h,this]
theorem Am{H0:Hp}(i:Int){v:V}{d:Dm.Dat}(rv:Rep H0 v d):∀{kvs:List (Key×V)} {ks:List Int} {ds:List Dm.Dat},kvs.map (·.1)=ks.map SX->aH H0 (kvs.map (·.2)) ds ->
  ((kvs.map fun kv=>if kv.1=SX i then (kv.1,v) else kv).map (·.1)=ks.map SX)/\aH H0 ((kvs.map fun kv=>if kv.1=SX i then (kv.1,v) else kv).map (·.2)) (Dm.Al ks ds i d)
 |[],[],_,_,r=>by cases r;exact⟨rfl,.nil⟩
 |[],_::_,_,e,_=>by cases e
 |_::_,[],_,e,_=>by cases e
 |(k0,v0)::kvs,k::ks,_,e,r=>by
  rw[Dk]at r;cases r with
  |cons r0 rr=>
   rw[Dk,Dk]at e;injection e with e1 e2
   have e1:k0=SX k:=e1;subst e1;obtain⟨i1,i2⟩:=Am i rv e2 rr;unfold Dm.Al;by_cases h:k=i
   ·subst h;rw[if_pos rfl,Dk,Dk,Dk,i1];simp only[if_true];exact⟨trivial,.cons rv i2⟩
   ·rw[if_neg h,Dk,Dk,Dk,i1];have:=uV h;simp only[this,if_false];exact⟨trivial,.cons r0 i2⟩
theorem Mc{H0:Hp}(i:Int){v:V}{d:Dm.Dat}(rv:Rep H0 v d){kvs:List (Key×V)}{ks:List Int}{ds:List Dm.Dat}(e:kvs.map (·.1)=ks.map SX)(r:aH H0 (kvs.map (·.2)) ds) :
  (putK kvs (SX i) v).map (·.1)=(Dm.nW ks i).map SX/\aH H0 ((putK kvs (SX i) v).map (·.2)) (Dm.nX ks ds i d):=by
 have ha:=DM i e;unfold putK Dm.nW Dm.nX;rw[ha];cases hb:(ks.any fun k=>decide (k=i)) with
 |true=>simp only[if_true];exact Am i rv e r
 |false=>simp only[Ub,if_false];rw[Tg,Tg,Tg,e];exact⟨rfl,r.append (.cons rv .nil)⟩
theorem Pe:OpD (fun x y H Q=>∃a v,x=.ref a/\iG H a y (some v)/\Q v H) Dm.gDx:=by
 intro H0 H x y dx dy z Q s rx ry e k;unfold Dm.gDx at e;split at e
 ·rename_i ks vs i;cases aG ry;obtain⟨a,kvs,rfl,qa,ek,rs⟩:=fZ s rx;rcases jE i ek rs with⟨d,v,l1,l2,r⟩ | ⟨l1,_⟩
  ·rw[l1]at e;cases e;refine⟨a,v,rfl,?_,k _ H0 H (aQ.refl s) r⟩;have:=iG.k (k:=SX i) qa;rw[l2]at this;exact this
  ·rw[l1]at e;cases e
 ·cases e
theorem Me:OpD (fun y x H Q=>∃a o,x=.ref a/\iG H a y o/\Q (.bl o.isSome) H) Dm.BJ:=by
 intro H0 H x y dx dy z Q s rx ry e k;unfold Dm.BJ at e;split at e
 ·rename_i i ks vs;cases e;cases aG rx;obtain⟨a,kvs,rfl,qa,ek,rs⟩:=fZ s ry;refine⟨a,_,rfl,iG.k (k:=SX i) qa,k _ H0 H (aQ.refl s) ?_⟩;rcases jE i ek rs with⟨d,v,l1,l2,r⟩ | ⟨l1,l2⟩
  ·rw[l1,l2];exact .bl _
  ·rw[l1,l2];exact .bl _
 ·cases e
theorem HD:OpD (fun y x H Q=>∃a o,x=.ref a/\iG H a y o/\Q (.bl (!o.isSome)) H) Dm.wA:=by
 intro H0 H x y dx dy z Q s rx ry e k;unfold Dm.wA at e;split at e
 ·rename_i i ks vs;cases e;cases aG rx;obtain⟨a,kvs,rfl,qa,ek,rs⟩:=fZ s ry;refine⟨a,_,rfl,iG.k (k:=SX i) qa,k _ H0 H (aQ.refl s) ?_⟩;rcases jE i ek rs with⟨d,v,l1,l2,r⟩ | ⟨l1,l2⟩
  ·rw[l1,l2];exact .bl _
  ·rw[l1,l2];exact .bl _
 ·cases e
section
variable{σ:L2.St}{H:Hp}{Q:VK}{D:Ends}
theorem RC(h:tD Dm.eDn σ H Q):yJ σ H Q:=by obtain⟨H0,ρ,x,ρ',st,e,k⟩:=h;cases e;intro p hp;have g:=aQ.oZ (o:=HO.dK []) st.same hp;exact k _ _ _ (.grow st g) ⟨p,rfl,hp,st.bX hp,st.same.free hp,[],au,rfl,.nil⟩
theorem Mf{fo fi:Dm.FE}(h:tD (Dm.nY fo fi) σ H Q):CU (tD fo) (tD fi) σ H Q:=by
 obtain⟨H0,ρ,x,ρ',st,e,k⟩:=h;unfold Dm.nY at e;split at e
 ·cases e
 rename_i x1 ρ1 e1;split at e
 case h_2=>cases e
 rename_i ks0 vs0 p0;split at e
 ·cases e
 rename_i y1 ρ2 e2;split at e
 case h_2=>cases e
 rename_i ks vs p1;split at e
 case h_2=>cases e
 rename_i i p2;cases e;refine⟨H0,ρ,x1,ρ1,st,e1,fun v H1 Hb t1 r1=>?_⟩;obtain⟨a,Mg,rfl,qa0,_,_⟩:=fZ t1.st.same (r1.look t1.st p0);refine⟨a,rfl,.inl ⟨Mg,.inl qa0⟩,H1,ρ1,y1,_,t1.st,e2,fun u H2 Hc t2 r2=>?_⟩;have hu:=aG (r2.look t2.st p2);subst hu;obtain⟨a',kvs,ea,qa,ek,rs⟩:=fZ t2.st.same ((r1.mono t2).look t2.st p1);cases ea;refine⟨_,iG.k (k:=SX i) qa,k _ H2 Hc (t1.trans t2) ?_⟩;rcases jE i ek rs with⟨d,w,l1,l2,r⟩ | ⟨l1,l2⟩
 ·rw[l1,l2];exact r
 ·rw[l1,l2];exact Rep.non
theorem Mh{i:Nat}{j f:Dm.FE}(h:tDS (Dm.qi i j f) D σ H):Jw (pL i) (tD j) (tD f) D σ H:=by
 obtain⟨H0,ρ,o,st,e,k⟩:=h;unfold Dm.qi at e;split at e
 ·cases e
 rename_i x ρ1 e1;split at e
 ·cases e
 rename_i d ρ2 e2;split at e
 case h_2=>cases e
 rename_i d0 h2;split at e
 ·rename_i m ρ3 e3;split at e
  ·rename_i ks vs h3;split at e
   case isFalse=>cases e
   rename_i hz;cases e;refine⟨H0,ρ,_,ρ1,st,e1,fun v H0' H' t r=>?_⟩;obtain⟨H1,t1,b1,r1,_,_⟩:=take1 t (av.refl _) r e2;obtain⟨a0,q0,_,_⟩:=t1.st.ow i _ h2;refine⟨_,q0,H1,ρ2,_,ρ3,t1.st,e3,fun u H2 Hc t2 r2=>?_⟩;obtain⟨a,q,n,w⟩:=t2.st.ow i _ h3;rw[q0]at q;cases q;obtain⟨kvs,y,ek,rs⟩:=w;have hu:=Rep.isInt r2;subst hu;obtain⟨p1,p2⟩:=Mc m (r1.mono t2.stp.s0) ek rs;have hlen:kvs.length=ks.length:=by
    have:=congrArg List.length ek
    simpa using this
   refine⟨a0,_,rfl,CS.k (k:=SX m) y (by rw[hlen];exact SN hz (by decide)),?_⟩;have ow:ao σ ρ3 a0:=⟨i,_,h3,q0⟩
   have tt:=t1.trans t2;exact k σ H2 _ ⟨t2.st.write h3 q0 ⟨_,au,p1,p2⟩,tt.stp.trans (Stp.write ow) fun b z=>.inl (tt.own b z),fun b z=>.inl (tt.own b (dS h3 z)),rfl⟩
  ·cases e
 ·cases e
theorem RD{fa fb:Dm.FE}(h:tD (Dm.eD1 fa fb) σ H Q):Jx [(tD fa,tD fb)] σ H Q:=by
 obtain⟨H0,ρ,x,ρ',st,e,k⟩:=h;unfold Dm.eD1 at e;split at e
 ·rename_i i ρ1 e1;split at e
  ·cases e
  rename_i y ρ2 e2;split at e
  ·cases e
  rename_i d ρ3 e3;cases e;intro p hp;have n0:H0 p=none:=st.same.free hp;have no:¬ao σ ρ p:=st.bX hp;refine⟨H0,ρ,_,ρ1,st.aside n0 no,e1,fun u H1 Hb t1 r1=>⟨H1,ρ1,y,ρ2,t1.st,e2,fun v H2 Hc t2 r2=>?_⟩⟩;have tt:=t1.trans t2;obtain⟨H3,t3,b3,r3,_,_⟩:=take1 tt (av.refl _) (r2.early fun a n=>t1.stp.gone n) e3;obtain⟨hp3,n3,no3⟩:=t3.eS (o:=HO.dK []) au n0 no;have hu:=Rep.isInt r1;subst hu;refine⟨hp3,[(SX i,v)],rfl,(by simp),?_⟩;have em:nh [] [((SX i:Key),v)]=[(SX i,v)]:=rfl;rw[em];refine k _ H3 _ ⟨t3.st.aside n3 no3,⟨t3.stp.s0,fun a o y nb=>?_,fun a o y=>?_,fun a o y=>?_⟩,t3.own,t3.dfn⟩ ⟨p,rfl,hp,no3,n3,_,au,rfl,.cons r3 .nil⟩
  ·have ne:a≠p:=fun q=>by rw[q,hp]at y;cases y
   rw[aj ne];exact t3.stp.s1 a o (by rw[aj ne];exact y) nb
  ·rcases t3.stp.s2 a o y with y1 | y1 | y1
   ·by_cases ne:a=p
    ·subst ne;rw[n3]at y;cases y
    ·rw[aj ne]at y1;exact .inl y1
   ·exact .inr (.inl y1)
   ·exact .inr (.inr y1)
  ·have ne:a≠p:=fun q=>by rw[q,hp]at y;cases y
   rw[aj ne];exact t3.stp.s3 a o (by rw[aj ne];exact y)
 ·cases e
end
theorem u1{k:Nat}{A:Around}(hr:b5 k A):A.units+1<cLine:=UR (Nat.add_le_add_left (by decide) _) hr.units
section
variable{X:Cx}{a b e:Expr}{fa fb f:Dm.FE}{pos:Pos}{k:Nat}
theorem RG:DE X (.Dict [] [] pos) Dm.eDn:=PE.weak v8 fun _ _ _=>RC
theorem RH(ha:DE X a fa)(hb:DE X b fb):DE X (.Dict [some a] [b] pos) (Dm.eD1 fa fb):=PE.weak (G1 (CT ha hb G0) rfl rfl (by simp) (by simp)) fun _ _ _=>RD
theorem Mi(hr:b5 k X.A)(ha:DE X a fa)(hb:DE X b fb)(hs:Lw b:=by intro _ _;rfl):DE X (.Subscript a b pos) (Dm.e2 Dm.gDx fa fb):=PE.weak (GY (u1 hr) ha hb hs) fun _ _ _=>yP Pe
theorem JI(hr:b5 k X.A)(ha:DE X a fa)(hb:DE X b fb)(hm:behindInMarks .In b=false:=by rfl):DT X (.Compare a [.In] [b] pos) (Dm.tV (Dm.e2 Dm.BJ fa fb)):=PT.weak (Co (Lx (u1 hr) ha hb) hm) fun σ H Q h=>yP Me (uO h)
theorem Mj(hr:b5 k X.A)(ha:DE X a fa)(hb:DE X b fb)(hm:behindInMarks .NotIn b=false:=by rfl):DT X (.Compare a [.NotIn] [b] pos) (Dm.tV (Dm.e2 Dm.wA fa fb)):=PT.weak (Co (Bu (u1 hr) ha hb) hm) fun σ H Q h=>yP HD (uO h)
theorem DO{apos cpos:Pos}(hr:b5 k X.A)(ha:DE X a fa)(hb:DE X b fb)(m:M1 X a "get" apos b cpos:=by exact⟨rfl,rfl,rfl,rfl⟩):DE X (.Call (.Attribute a "get" apos) [b] [] cpos) (Dm.nY fa fb):=PE.weak (CW (u1 hr) ha hb m) fun _ _ _=>Mf
theorem DP(i:Nat){x:Str}{px sp:Pos}(hr:b5 k X.A)(hb:DE X b fb)(he:DE X e f)(hi:X.N[i]?=some x:=by rfl)(hv:Vis X.env.scope x:=by trivial)(hd:(x == ("__debug__" : Str))=false:=by decide)
  (hcd:(x == ("__classdict__" : Str))=false:=by decide) (hs:swapsWith e (some (.Subscript (.Name x px) b sp)) pos.line X.env=pure false:=by rfl):DS X (.Assign [.Subscript (.Name x px) b sp] e pos) (Dm.qi i fb f):=
 PS.weak (GZ (u1 hr) (fG hi hv hd hcd) hb he hs) fun _ _ _=>Mh
end
section
variable{σ:L2.St}{H:Hp}{Q:VK}
theorem RI{K:gV}{f:Dm.FE}{Q:Bool->Hp->Prop}(h:tDT (Dm.tTr f) σ H Q):tD f σ H fun x H'=>∃k,Lf K x H' k/\Q k H':=by
 obtain⟨H0,ρ,b,ρ',st,e,k⟩:=h;unfold Dm.tTr at e;split at e
 ·cases e
 rename_i x ρ1 e1;split at e
 ·cases e
 rename_i d p1;split at e
 ·cases e
 rename_i c tc;cases e;refine⟨H0,ρ,x,_,st,e1,fun v H1 Hb t1 r1=>⟨b,?_,k H1 Hb t1⟩⟩;have rl:=r1.look t1.st p1;cases d with
 |non=>
  cases tc;rcases rl with r | ⟨a,_,w⟩
  ·cases r;rfl
  ·exact SQ w
 |bl c=>cases tc;cases Ae rl;rfl
 |int i=>cases tc;cases aG rl;rfl
 |tup es=>cases tc;obtain⟨a,xs,rfl,qa,rs⟩:=gM t1.st.same rl;refine .inr (.inl ⟨xs,SqT.of qa,?_⟩);cases rs<;>rfl
 |lst es=>cases tc;obtain⟨a,xs,rfl,qa,rs⟩:=b8 t1.st.same rl;refine .inl ⟨xs,.inl qa,?_⟩;cases rs<;>rfl
 |str _=>cases tc
 |dct _ _=>cases tc
 |exc _=>cases tc
 |fn _=>cases tc
end
section
variable{X:Cx}{a:Expr}{fa:Dm.FE}{p pos:Pos}
theorem RJ(ha:DE X a fa)(he:∀whole,isTrue a X.env whole=(do let v <- whole;standAt a.pos;holding [v] (truthy v)):=by intro _;rfl):DT X a (Dm.tTr fa):=PT.weak (CH ha he) fun _ _ _=>RI
end
end Br
namespace Dm
noncomputable def nZ:List Dat->Option (List Int)
 |[]=>some []
 |.int i::r=>(nZ r).map fun ns=>i::ns
 |_=>none
end Dm
namespace Ts
open PySem PyProof.Rows
variable{M:Model}{A:Around}{E:Value->Shared->Prop}{s:Shared}{κ:KeyKind}{kd:SortKind}{a₀:Array Keyed}
end Ts
namespace Ts
open PySem PyProof.Rows
variable{M:Model}{A:Around}{E:Value->Shared->Prop}{s:Shared}{κ:KeyKind}{kd:SortKind}{a₀:Array Keyed}
end Ts
namespace Ts
open PySem PyProof.Rows
variable{M:Model}{A:Around}{E:Value->Shared->Prop}{s:Shared}{κ:KeyKind}{kd:SortKind}{a₀:Array Keyed}
end Ts
namespace Ts
open PySem PyProof.Rows
variable{M:Model}{A:Around}{E:Value->Shared->Prop}{s:Shared}{κ:KeyKind}{kd:SortKind}{a₀:Array Keyed}
end Ts
namespace Ts
open PySem PyProof.Rows
variable{A:Around}{E:Value->Shared->Prop}{s:Shared}{κ:KeyKind}{kd:SortKind}{a₀:Array Keyed}{prog:Program}{w:World}
end Ts
namespace Ts
open PySem PyProof.Rows
variable{A:Around}{E:Value->Shared->Prop}{s:Shared}{κ:KeyKind}{kd:SortKind}{a₀:Array Keyed}{prog:Program}{w:World}
end Ts
namespace Ts
open PySem PyProof.Rows
variable{A:Around}{E:Value->Shared->Prop}{s:Shared}{κ:KeyKind}{kd:SortKind}{a₀:Array Keyed}{prog:Program}{w:World}
end Ts
namespace Ts
open PySem PyProof.Rows
variable{A:Around}{E:Value->Shared->Prop}{s:Shared}{κ:KeyKind}{kd:SortKind}{a₀:Array Keyed}{prog:Program}{w:World}
end Ts
namespace Ts
open PySem PyProof.Rows
variable{A:Around}{E:Value->Shared->Prop}{s:Shared}{κ:KeyKind}{kd:SortKind}{prog:Program}{w:World}
end Ts
namespace Ts
open PySem PyProof.Rows
variable{A:Around}{E:Value->Shared->Prop}{s:Shared}{κ:KeyKind}{kd:SortKind}{a₀:Array Keyed}{prog:Program}{w:World}
end Ts
namespace Ts
open PySem PyProof.Rows
variable{A:Around}{E:Value->Shared->Prop}{s:Shared}{κ:KeyKind}{kd:SortKind}{prog:Program}{w:World}
end Ts
namespace Dm
noncomputable def ins{α:Type}(lt:α->α->Bool)(x:α):List α->List α
 |[]=>[x]
 |y::l=>if lt y x then y::ins lt x l else x::y::l
noncomputable def iB{α:Type}(lt:α->α->Bool):List α->List α
 |[]=>[]
 |x::l=>ins lt x (iB lt l)
theorem qj{α:Type}(lt:α->α->Bool)(x:α):∀l,(ins lt x l).Perm (x::l)
 |[]=>List.Perm.refl _
 |y::l=>by
  rw[ins];split
  ·exact((qj lt x l).cons y).trans (List.Perm.swap x y l)
  ·exact List.Perm.refl _
theorem gX{α:Type}(lt:α->α->Bool):∀l,(iB lt l).Perm l
 |[]=>List.Perm.refl _
 |x::l=>(qj lt x _).trans ((gX lt l).cons x)
theorem qk{α:Type}{lt:α->α->Bool}(tr:∀a b c,lt b a=false->lt c b=false->lt c a=false)(as:∀a b,lt a b=true->lt b a=false)(x:α):∀l:List α,l.Pairwise (fun a b=>lt b a=false)->(ins lt x l).Pairwise (fun a b=>lt b a=false)
 |[],_=>by simp[ins]
 |y::l,h=>by
  rw[ins];obtain⟨h1,h2⟩:=Uc.mp h;split
  ·rename_i hl;refine Uc.mpr ⟨fun z hz=>?_,qk tr as x l h2⟩;rcases SH.mp ((qj lt x l).mem_iff.mp hz) with rfl | hz
   ·exact as _ _ hl
   ·exact h1 z hz
  ·rename_i hl;have hl':lt y x=false:=by simpa using hl
   refine Uc.mpr ⟨fun z hz=>?_,h⟩;rcases SH.mp hz with rfl | hz
   ·exact hl'
   ·exact tr _ _ _ hl' (h1 z hz)
theorem gY{α:Type}{lt:α->α->Bool}(tr:∀a b c,lt b a=false->lt c b=false->lt c a=false)(as:∀a b,lt a b=true->lt b a=false):∀l:List α,(iB lt l).Pairwise (fun a b=>lt b a=false)
 |[]=>List.Pairwise.nil
 |x::l=>qk tr as x _ (gY tr as l)
theorem n8{α:Type}{lt:α->α->Bool}(tot:∀a b,lt a b=false->lt b a=false->a=b):∀{l m:List α},l.Perm m->l.Pairwise (fun a b=>lt b a=false)->m.Pairwise (fun a b=>lt b a=false)->l=m
 |[],m,p,_,_=>(List.nil_perm.mp p).symm
 |x::l,[],p,_,_=>by have:=p.length_eq;simp at this
 |x::l,y::m,p,h1,h2=>by
  obtain⟨a1,a2⟩:=Uc.mp h1;obtain⟨b1,b2⟩:=Uc.mp h2;have e:x=y:=by
   rcases SH.mp (p.mem_iff.mp Sy) with hx | hx
   ·exact hx
   ·rcases SH.mp (p.mem_iff.mpr (Sy (a:=y) (l:=m))) with hy | hy
    ·exact hy.symm
    ·exact tot x y (b1 x hx) (a1 y hy)
  subst e;rw[n8 tot (List.Perm.cons_inv p) a2 b2]
noncomputable def HE(i:Nat)(e:FE):FS:=fun ρ=>match ρ[i]? with
 | some (.ow (.lst _))=>(match e ρ with
  |none=>none
  |some (x,ρ1)=>match pk ρ1 x with
   | some (.lst es)=>(match ρ1[i]? with
    |some (.ow (.lst ds))=>if ds.length+es.length<=SZ then some (.nx (ρ1.set i (.ow (.lst (ds++es))))) else none
    |_=>none)
   |_=>none)
 |_=>none
noncomputable def ny(i:Nat)(e:FE):FE:=fun ρ=>match ρ[i]? with
 | some (.ow (.lst _))=>(match e ρ with
  | some (.val (.int j),ρ1)=>(match ρ1[i]? with
   | some (.ow (.lst ds))=>if 0≤j∧j≤BIG then (match ds[j.toNat]? with
     |some d=>some (.val d,ρ1.set i (.ow (.lst (ds.eraseIdx j.toNat))))
     |none=>none) else none
   |_=>none)
  |_=>none)
 |_=>none
noncomputable def isN:Dat->Bool
 |.non=>true
 |_=>false
noncomputable def wB:Dat->Dat->Option RV
 |d,.non=>vB (isN d)
 |_,_=>none
noncomputable def An:Dat->Dat->Option RV
 |d,.non=>vB (!isN d)
 |_,_=>none
noncomputable def bA(bad:List Dat->Bool)(fs:List FE)(ρ:Env):Option Env:=match eAs fs ρ with
 |none=>none
 |some (xs,ρ1)=>match pks ρ1 xs with
  |none=>none
  |some ds=>if bad ds then some ρ1 else none
noncomputable def rIf(t:FT)(R S:Env->Option Env)(ρ:Env):Option Env:=match t ρ with
 |none=>none
 |some (true,ρ1)=>R ρ1
 |some (false,ρ1)=>S ρ1
noncomputable def HF(ρ:Env):Option Env:=some ρ
noncomputable def rNo(_:Env):Option Env:=none
noncomputable def fnX(n m:Nat)(R:Env->Option Env)(ds:List Dat):Bool:=decide (ds.length=n)&&(R (ds.map .sh++Dp m .un)).isSome
noncomputable def uW(C:Nat)(b:Bool):Dat->Option RV
 |.exc C'=>if C'=C then vB b else none
 |_=>none
end Dm
namespace Br
open PySem PySem.Spec PyProof.Rows L2
theorem tU{H0:Hp}:∀ns:List Int,aH H0 (ns.map V.int) (ns.map Dm.Dat.int)
 |[]=>.nil
 |n::ns=>.cons (.int n) (tU ns)
section
variable{X:Cx}{a b c e:Expr}{f fa fb:Dm.FE}{fs:List Dm.FE}{p pos:Pos}
noncomputable def HG(neg:Bool):R2:=fun x y H Q=>y=.non/\Q (.bl (if neg then !decide (x=V.non) else decide (x=V.non))) H
theorem Ao{x:V}{v:Value}(r:RelV x v):(v == VE)=decide (x=V.non):=by
 cases x with
 |non=>cases r;rfl
 |bl b=>cases r;rfl
 |int i=>obtain⟨t,rfl⟩:=r;rfl
 |str z=>obtain⟨t,rfl⟩:=r;rfl
 |byt z=>obtain⟨t,rfl⟩:=r;rfl
 |flt z=>obtain⟨t,rfl⟩:=r;rfl
 |ref z=>cases r;rfl
 |ty z=>cases r;rfl
theorem DQ:OpR X (compareOp .Is) (HG false):=by intro pins s σ H x y v u Q I rx ry h;obtain⟨rfl,q⟩:=h;cases ry;refine is_none_gen ?_;rw[Ao rx];exact⟨.bl _,H,I,rfl,q⟩
theorem pC{H0 H:Hp}{x:V}{d:Dm.Dat}(r:nq H0 H x d):decide (x=V.non)=Dm.isN d:=by
 rcases r with r | ⟨a,rfl,w⟩
 ·cases r<;>rfl
 ·cases d with
  |non=>exact SQ w
  |_=>rfl
theorem DR:OpD (HG false) Dm.wB:=by
 intro H0 H x y dx dy z Q s rx ry e k;unfold Dm.wB at e;split at e
 ·cases e;have hy:=pC ry;have:y=V.non:=of_decide_eq_true (hy.trans rfl);refine⟨this,?_⟩;rw[if_neg (by decide),pC rx];exact k _ H0 H (aQ.refl s) (.bl _)
 ·cases e
theorem Pf(ha:DE X a fa)(hb:DE X b fb):DE X (.Compare a [.Is] [b] pos) (Dm.e2 Dm.wB fa fb):=tR DQ DR ha hb (fJ _)
theorem JJ(ha:DE X a fa)(hb:DE X b fb):DT X (.Compare a [.Is] [b] pos) (Dm.tV (Dm.e2 Dm.wB fa fb)):=p_ DQ DR ha hb (fJ _)
end
section
variable{X:Cx}
noncomputable def JK:V->List V->Hp->VK->Prop:=fun x vs H Q=>∃l b xs zs,x=.ref l/\vs=[.ref b]/\H l=some (.lst xs)/\Rd H b (.lst zs)/\xs.length+zs.length<=sizeLine/\Q .non (upd H l (.lst (xs++zs)))
theorem HH:MtM X "list.extend" JK:=by
 intro pins s σ H x vs v us Q I rx rv h;obtain⟨l,b,xs,zs,rfl,rfl,hH,hB,hz,q⟩:=h;cases rx;obtain⟨u,rfl,ru⟩:=rv.one;cases ru;obtain⟨z,its,n,r,hl,e⟩:=I.Ls hH;obtain⟨z2,its2,n2,r2,e2⟩:=hB.ok I.hok;have hl2:=r2.length;have tot:its.toArray.size+its2.toArray.size<=sizeLine:=by simp only[SE];omega
 have short:¬(!its.toArray.isEmpty&&Uz (its.toArray.size+its2.toArray.size))=true:=by rw[vW tot,Bool.and_false];decide
 refine call_meets F.slot_list_extend ⟨_,e,rfl⟩ F.entry_list_extend (F.args_list_extend_2 _ _) (AutoSeq1.list_extend_list_list_0 l its.toArray n b its2.toArray n2 short (by rw[SE];omega) (by omega)) ⟨e,e2,?_⟩;exact⟨.non,_,I.Lq (its':=its++its2) hH e (by simp) (r.append r2) (by rw[SK];omega),rfl,q⟩
end
section
variable{σ:L2.St}{H:Hp}{Q:VK}{D:Ends}
theorem Pg{K:gV}{i:Nat}{f:Dm.FE}(h:tDS (Dm.HE i f) D σ H):tw (tBM K "list" JK (pL i) (tDA [f])) D σ H:=by
 obtain⟨H0,ρ,o,st,e,k⟩:=h;unfold Dm.HE at e;split at e
 case h_2=>cases e
 rename_i ds0 h0;obtain⟨a0,q0,n0,w0⟩:=st.ow i _ h0;refine⟨_,q0,?_⟩;split at e
 ·cases e
 rename_i x ρ1 e1;split at e
 case h_2=>cases e
 rename_i es p1;split at e
 case h_2=>cases e
 rename_i ds h2;split at e
 case isFalse=>cases e
 rename_i hz;cases e;obtain⟨xs0,y0,_⟩:=w0;refine⟨.inl ⟨rfl,xs0,.inl (.inl y0)⟩,?_⟩;refine⟨H0,ρ,[x],ρ1,st,by unfold Dm.eAs;rw[e1];rfl,fun vs H0' H' t r=>?_⟩;cases r with
 |cons r rr=>
  cases rr;obtain⟨b,zs,rfl,qb,rb⟩:=b8 t.st.same (r.look t.st p1);obtain⟨a,q,n,w⟩:=t.st.ow i _ h2;rw[q0]at q;cases q;obtain⟨xs,y,rs⟩:=w;refine⟨a0,b,xs,zs,rfl,rfl,y,qb,by rw[rs.length,rb.length];exact Tn hz (by decide),?_⟩;have ow:ao σ ρ1 a0:=⟨i,_,h2,q0⟩
  exact k σ H0' _ ⟨t.st.write h2 q0 ⟨_,au,rs.append rb⟩,t.stp.trans (Stp.write ow) fun b z=>.inl (t.own b z),fun b z=>.inl (t.own b (dS h2 z)),rfl⟩
theorem ql{α:Type}(l:List α)(i:Nat):l.eraseIdx i=l.take i++l.drop (i+1):=List.eraseIdx_eq_take_drop_succ l i
theorem yY{H0:Hp}{vs:List V}{ds:List Dm.Dat}(i:Nat)(r:aH H0 vs ds):aH H0 (vs.eraseIdx i) (ds.eraseIdx i):=by rw[ql,ql];exact(r.take i).append (r.drop (i+1))
theorem HJ{K:gV}{i:Nat}{f:Dm.FE}(h:tD (Dm.ny i f) σ H Q):tBM K "list" CM (pL i) (tDA [f]) σ H Q:=by
 obtain⟨H0,ρ,x,ρ',st,e,k⟩:=h;unfold Dm.ny at e;split at e
 case h_2=>cases e
 rename_i ds0 h0;obtain⟨a0,q0,n0,w0⟩:=st.ow i _ h0;refine⟨_,q0,?_⟩;obtain⟨xs0,y0,_⟩:=w0;refine⟨.inl ⟨rfl,xs0,.inl (.inl y0)⟩,?_⟩;split at e
 case h_2=>cases e
 rename_i j ρ1 e1;split at e
 case h_2=>cases e
 rename_i ds h2;split at e
 case isFalse=>cases e
 rename_i hb;split at e
 case h_2=>cases e
 rename_i d hd;cases e;refine⟨H0,ρ,[.val (.int j)],ρ1,st,by unfold Dm.eAs;rw[e1];rfl,fun vs H0' H' t r=>?_⟩;cases r with
 |cons r rr=>
  cases rr;cases Rep.isInt r;obtain⟨a,q,n,w⟩:=t.st.ow i _ h2;rw[q0]at q;cases q;obtain⟨xs,y,rs⟩:=w;obtain⟨v,hv,rv⟩:=rs.get hd;have hlt:j.toNat<xs.length:=(Sw.mp hv).1;have hB:Dm.BIG=1000000000:=rfl;refine⟨a0,xs,j,j.toNat,v,rfl,rfl,y,by omega,by omega,?_,hv,?_⟩
  ·unfold seqIndex?;simp only[show ¬j<0 by omega,if_false];rw[if_pos (by rw[decide_eq_true (show 0<=j by omega),decide_eq_true (show j<(xs.length:Int) by omega)];rfl)]
  have ow:ao σ ρ1 a0:=⟨i,_,h2,q0⟩
  have hi:i<ρ1.length:=(Sw.mp h2).1;refine k v H0' _ (t.trans ⟨t.st.write h2 q0 ⟨_,au,yY _ rs⟩,Stp.write ow,fun b z=>dS h2 z,fun j' z=>trivial⟩) rv
end
section
variable{X:Cx}{e:Expr}{f:Dm.FE}{pos:Pos}
theorem Ph(i:Nat){x:Str}{px ap cp:Pos}(he:DE X e f)(hi:X.N[i]?=some x:=by rfl)(hv:Vis X.env.scope x:=by trivial)(hd:(x == ("__debug__" : Str))=false:=by decide)
  (hcd:(x == ("__classdict__" : Str))=false:=by decide) (hbase:attributeBase (.Name x px) "extend" X.env (eval (.Name x px) X.env)=eval (.Name x px) X.env:=by rfl)
  (hfew:((backTo cp (starEach [e] X.env)).all (fun x=>!x.1)&&(backToKw cp (keywordEach [] X.env)).all (fun x=>x.1.isSome)
   && decide ([e].length+([]:List Keyword).length+(if ([]:List Keyword).isEmpty then 0 else 1)<30))=true:=by rfl)
  (hline:(ap.endLine == cp.line)=true:=by rfl) (hs:starEach [e] X.env=(false,eval e X.env)::starEach [] X.env:=by rfl) (hplain:(backTo cp (starEach [] X.env)).any (·.1)=false:=by rfl)
  (hsw:swapsWith (.Call (.Attribute (.Name x px) "extend" ap) [e] [] cp) none pos.line X.env=pure false:=by rfl) :
  DS X (.Expr (.Call (.Attribute (.Name x px) "extend" ap) [e] [] cp) pos) (Dm.HE i f):=
 PS.weak (jB (vV Uj PySem.F.slot_list_extend PySem.F.type_list_extend HH (fG hi hv hd hcd) (aa he af hs) hbase hfew hline hs hplain) hsw) fun _ _ _=>Pg
theorem HK(i:Nat){x:Str}{px ap cp:Pos}(he:DE X e f)(hi:X.N[i]?=some x:=by rfl)(hv:Vis X.env.scope x:=by trivial)(hd:(x == ("__debug__" : Str))=false:=by decide)
  (hcd:(x == ("__classdict__" : Str))=false:=by decide) (hbase:attributeBase (.Name x px) "pop" X.env (eval (.Name x px) X.env)=eval (.Name x px) X.env:=by rfl)
  (hfew:((backTo cp (starEach [e] X.env)).all (fun x=>!x.1)&&(backToKw cp (keywordEach [] X.env)).all (fun x=>x.1.isSome)
   && decide ([e].length+([]:List Keyword).length+(if ([]:List Keyword).isEmpty then 0 else 1)<30))=true:=by rfl)
  (hline:(ap.endLine == cp.line)=true:=by rfl) (hs:starEach [e] X.env=(false,eval e X.env)::starEach [] X.env:=by rfl) (hplain:(backTo cp (starEach [] X.env)).any (·.1)=false:=by rfl) :
  DE X (.Call (.Attribute (.Name x px) "pop" ap) [e] [] cp) (Dm.ny i f):=
 PE.weak (vV Uj PySem.F.slot_list_pop PySem.F.type_list_pop CN (fG hi hv hd hcd) (aa he af hs) hbase hfew hline hs hplain) fun _ _ _=>HJ
end
end Br
namespace L2
open PySem PySem.Spec PyProof.Rows
noncomputable def CXE(P:Program)(w:World)(C:Addr):CXT:=fun outer H s E e s'=>
 ∃ea a0 B H',e=.ref ea/\s'.os=s.os/\AllBare s'.gens/\Un (frs outer) [] H H' s.heap s'.heap/\HOk P w H' s'.heap/\Heap.FlyingW B outer ea (.ref C) a0 s'.heap /\
  (∀b o,s'.heap.get? b=some o->(s.heap.get? b).isSome=true\/(H' b).isSome=true->b∉frs outer->B.get? b=some o)/\E (.ref C) (some ea) H'
theorem br.there{P:Program}{w:World}{H:Hp}{h:Heap}{a:Addr}{o:HO}(x:br P w H h a o):∃u,h.get? a=some u:=by
 cases o with
 |lst xs=>obtain⟨_,_,_,_,e⟩:=x;exact⟨_,e⟩
 |tup xs=>obtain⟨_,_,_,ob,e,_⟩:=x;exact⟨_,e⟩
 |dK kvs=>obtain⟨_,_,_,_,o,_,_,e,_⟩:=x;exact⟨_,e⟩
 |dT kvs=>obtain⟨_,_,_,_,o,_,_,e,_⟩:=x;exact⟨_,e⟩
 |set S n=>obtain⟨o,_,_,_,e,_⟩:=x;exact⟨_,e⟩
 |ins C dx fs=>obtain⟨_,_,_,e,_⟩:=x;exact⟨_,e⟩
 |own y=>obtain⟨_,e⟩:=x;exact⟨_,e⟩
 |xd fs=>obtain⟨_,⟨_,_,_,e,_⟩,_⟩:=x;exact⟨_,e⟩
 |rng lo hi=>obtain⟨_,_,_,e⟩:=x;exact⟨_,e⟩
 |frz ob u=>obtain⟨e,_⟩:=x;exact⟨_,e⟩
 |tbl ps=>exact⟨_,x⟩
 |met f y=>exact⟨_,x⟩
 |ext φ=>obtain⟨_,⟨_,e⟩,_⟩:=x;exact⟨_,e⟩
section
variable{X:Cx}{pins:List (Addr×Obj)}{σ:St}{H:Hp}{s:Shared}{x:Str}{C:Addr}{bmB:List Value}{B newId initId:String}{np cpos pos:Pos}
theorem BK{t:St->Hp->Prop}(hc:X.calm=true)(hg:Gl X x)(O:OwnCls x C bmB newId X.mg X.base)(FB:ExcBaseFacts B newId initId bmB)
  (hE:∀pins σ H s h' e,Inv X pins σ H s->t σ H->Heap.MadeExcOf s.heap h' e (.ref C) []->X.xe (.ref e) { s with heap:=h' }) (hdb:(x == ("__debug__" : Str))=false:=by decide) :
  PS X (.Raise (some (.Call (.Name x np) [] [] cpos)) none pos) (fun _ σ H=>t σ H):=by
 intro pins s σ H D I h;obtain⟨tl,N,nm,q,bs,hdct,sn,sub,ab,col,dd,k0,k1,k2,k3,k5,mN,hC,hN,hni,T⟩:=O.obj;refine wpAny_Raise_call_subT (C:=C) (nm:=nm) (q:=q) (N:=N) (bs:=bs) (bm:=tl) (hdct:=hdct) (sn:=sn) (sub:=sub) (ab:=ab) (col:=col) (dd:=dd) (k0:=k0) (k1:=k1) (k2:=k2) (k3:=k3) (k5:=k5)
  FB (mN:=mN) (T.hasType FB.hasBase) (I.ok.hd hc) rfl hni (jA I hg O.bound ⟨rfl,?_⟩ hdb)
 exact evalArgs_empty ⟨rfl,Ti _,I.bk _ _ hC,hN.keeps I.bk,T.keeps I.bk,fun h' e hm=>hE pins σ H s h' e I h hm⟩
theorem Inv.out(I:Inv X pins σ H s){h'' Bh:Heap}(hx:X.ex=[])(hB:∀b o,s.heap.get? b=some o->b∉frs X.stack->(X.s₀.heap.get? b).isSome=true\/(H b).isSome=true->Bh.get? b=some o)(k1:Bh.StaysIn h'')
  (sl:s.heap.UpToSlots h''):Un X.fs [] X.H₀ H X.s₀.heap h''/\HOk X.prog X.w H h'' /\
   (∀b o,h''.get? b=some o->(X.s₀.heap.get? b).isSome=true\/(H b).isSome=true->b∉X.fs->Bh.get? b=some o):=by
 have nx:∀b:Addr,b∉X.ex:=fun b z=>by rw[hx]at z;cases z
 have neL:∀b o,X.s₀.heap.get? b=some o->b≠X.env.locals:=fun b o e=>S0 (SN (SD e) I.ok.above);have nst:∀b o,X.s₀.heap.get? b=some o->b∉X.fs->b∉frs X.stack:=fun b o e hb z=>(SH.mp (I.pJ b z)).elim (neL b o e) hb;have frame:∀b,b∈X.fs->∀o,s.heap.get? b=some o->∃sl,h''.get? b=some { o with slots:=sl }:=fun b hb o e=>by obtain⟨_,o',ho',hd⟩:=I.oX.mem hb;rw[e]at ho';cases ho';exact sl b o e hd
 have stay:∀b o,b∉frs X.stack->(X.s₀.heap.get? b).isSome=true\/(H b).isSome=true->s.heap.get? b=some o->h''.get? b=some o:=fun b o hb hh e=>k1 b o (hB b o e hb hh);have tr:∀b u,H b=some u->b∉frs X.stack:=fun b u e z=>by rw[I.uB b z]at e;cases e
 refine⟨⟨fun b o e n hb _=>?_,fun b o e n hb _=>?_,fun b o e n _=>I.base.free b o e n (nx b),fun b o e _=>?_,I.base.tups,I.base.jZ,I.base.m7⟩,fun b u e=>?_,fun b o e hh hb=>?_⟩
 ·exact stay b o (nst b o e hb) (.inl (by rw[e];rfl)) (I.base.keep b o e n hb (nx b))
 ·obtain⟨s1,e1⟩:=I.base.slot b o e n hb (nx b);obtain⟨s2,e2⟩:=frame b hb _ e1;exact⟨s2,e2⟩
 ·obtain⟨o1,e1⟩:=I.base.there b o e (nx b);by_cases hb:b∈X.fs
  ·obtain⟨s2,e2⟩:=frame b hb _ e1;exact⟨_,e2⟩
  ·exact⟨o1,stay b o1 (nst b o e hb) (.inl (by rw[e];rfl)) e1⟩
 ·refine(I.hok b u e).stay (fun c v hc q=>?_) (fun _ q=>q) fun _ _ q=>q;rcases hc with rfl | hc
  ·exact stay c v (tr c u e) (.inr (by rw[e];rfl)) q
  ·exact stay c v (tr c _ hc) (.inr (by rw[hc];rfl)) q
 ·have:∃o1,s.heap.get? b=some o1:=by
   rcases hh with hh | hh
   ·obtain⟨o0,e0⟩:=Th.mp hh;exact I.base.there b o0 e0 (nx b)
   ·obtain⟨u,e0⟩:=Th.mp hh;exact(I.hok b u e0).there
  obtain⟨o1,e1⟩:=this;have hs:b∉frs X.stack:=by
   rcases hh with hh | hh
   ·obtain⟨o0,e0⟩:=Th.mp hh;exact nst b o0 e0 hb
   ·obtain⟨u,e0⟩:=Th.mp hh;exact tr b u e0
  have e2:=stay b o1 hs hh e1;rw[e]at e2;cases e2;exact hB b o e1 hs hh
end
section
variable{P:Program}{w:World}{K:gV}{mg:Str->Option Value}{base:Heap}{N:List Str}{qual:Str}{scope:Scope}{f:Addr}{cd:Value}{A:Around}{outer:List Env}{s₀:Shared}{H₀:Hp}{E:XK}{C:Addr}
 {pins:List (Addr×Obj)} {σ:St} {H:Hp} {s:Shared}
theorem HL{h h' h'':Heap}(k:∀b o,h.get? b=some o->h'.get? b=some o)(x:h'.UpToSlots h''):h.UpToSlots h'':=(Heap.UpToSlots.of_keeps k).trans x
theorem HM(I:Inv (gT (CXE P w C) P w K mg base N qual scope f cd A outer s₀ H₀ E) pins σ H s){h':Heap}{e:Addr}(hx:Heap.MadeExcOf s.heap h' e (.ref C) [])(hE:E (.ref C) (some e) H) :
  (gT (CXE P w C) P w K mg base N qual scope f cd A outer s₀ H₀ E).xe (.ref e) { s with heap:=h' }:=by
 have hin:∀env∈(gT (CXE P w C) P w K mg base N qual scope f cd A outer s₀ H₀ E).stack,∀b,env.frame=some b->b∈frs (gT (CXE P w C) P w K mg base N qual scope f cd A outer s₀ H₀ E).stack:=fun env he b hb=>UQ.mpr ⟨env,he,hb⟩;show wpAny (model P w) _ (leaving _ (.ref e)) _ _ _;refine wpAny_leaves_madeW (base:=Vw s.heap (frs (gT (CXE P w C) P w K mg base N qual scope f cd A outer s₀ H₀ E).stack)) (h:=s.heap) (L:=s₀.heap.objs.size) I.ok.frames rfl (fun b o q=>PySem.W.of_hideAll _ q) (PySem.W.funFrames_hide I.stack hin) hx fun h'' t fl tup bt sl=>?_;obtain⟨u1,u2,u3⟩:=I.out (h'':=h'') (Bh:=Vw s.heap (frs (gT (CXE P w C) P w K mg base N qual scope f cd A outer s₀ H₀ E).stack)) rfl (fun b o q hb _=>PySem.W.hideAll_get _ q hb) fl.1 (HL hx.keeps sl);exact⟨e,.ref t,_,H,rfl,I.os,I.bare,u1,u2,fl,u3,hE⟩
theorem Pj:Passes (CXE P w C) (gT (CXE P w C) P w K mg base N qual scope f cd A outer s₀ H₀ E) E:=by
 intro pins σ H s e s' I hq;obtain⟨ea,a0,Bh,H',rfl,os,bare,un,hok,fl,hB,hE⟩:=hq;obtain⟨hh,g,d,t,os'⟩:=s';obtain rfl:os'=s.os:=os;have J:=I.call (h':=hh) (g':=g) (d':=d) (t':=t) (ch:=[]) un hok bare (fun b z=>absurd z (by simp));show wpAny (model P w) _ (leaving _ (.ref ea)) _ _ _;refine wpAny_leaves_onW (base:=Bh) (L:=s₀.heap.objs.size) I.ok.frames rfl fl fun h'' Pk sl=>?_;have neL:∀b o,s₀.heap.get? b=some o->∃o1,s.heap.get? b=some o1:=fun b o e=>I.base.there b o e (fun z=>nomatch z);obtain ⟨u1,u2,u3⟩:=J.out (h'':=h'') (Bh:=Bh) rfl (fun b o q hb hh=>hB b o q (hh.imp (fun z=>by obtain⟨o0,e0⟩:=Th.mp z;obtain⟨o1,e1⟩:=neL b o0 e0;rw[e1];rfl) id) hb) Pk.1 sl
 exact⟨ea,a0,Bh,H',rfl,J.os,bare,u1,u2,Pk,u3,hE⟩
end
section
variable{X:Cx}{st:Stmt}{rest:List Stmt}{t:TS}
noncomputable def DF:Ends:={ nx:=fun _ _=>False,rt:=fun _ _=>False,bk:=fun _ _=>False,ct:=fun _ _=>False }
theorem DU(h1:PS X st t):PSs X (st::rest) (fun _ σ H=>t DF σ H):=by
 intro pins s σ H D I h;refine wpAny_execs_cons (thn (h1 pins s σ H DF I h) fun f s1 q=>?_);cases f with
 |next=>obtain⟨_,_,_,q⟩:=q;exact SQ q
 |ret v=>obtain⟨_,_,_,_,_,q⟩:=q;exact SQ q
 |brk=>obtain⟨_,_,_,q⟩:=q;exact SQ q
 |cont=>obtain⟨_,_,_,q⟩:=q;exact SQ q
end
end L2
namespace Br
open PySem PySem.Spec PyProof.Rows L2
noncomputable def wC(C:Addr)(X:Cx)(E:L2.St->XK):Prop:=∀(pins:List (Addr×Obj)) (σ:L2.St) (H:Hp) (s:Shared) (e:Value) (s':Shared),Inv X pins σ H s->CXE X.prog X.w C X.stack H s (E σ) e s'->X.xe e s'
noncomputable def tX(C:Addr)(E:L2.St->XK)(R:Dm.Env->Option Dm.Env)(σ:L2.St)(H:Hp):Prop:=∃H0 ρ ρ',az H0 H σ ρ/\R ρ=some ρ'/\∀a H0' H',ESt σ ρ H0 H ρ' H0' H'->E σ (.ref C) (some a) H'
noncomputable def spX(C:Addr)(bad:List Dm.Dat->Bool):Sp:=fun vs H _ E=>∃H0 ds,av H0 H/\aH H0 vs ds/\bad ds=true/\∀a H0' H',aQ H0 H H0' H'->E (.ref C) (some a) H'
noncomputable abbrev XE(X:Cx)(C:Addr)(E:L2.St->XK)(e:Expr)(R:Dm.Env->Option Dm.Env):Prop:=PE X e (fun σ H _=>tX C E R σ H)
noncomputable abbrev XS(X:Cx)(C:Addr)(E:L2.St->XK)(st:Stmt)(R:Dm.Env->Option Dm.Env):Prop:=PS X st (fun _ σ H=>tX C E R σ H)
section
variable{X:Cx}{C:Addr}{E:L2.St->XK}{k:Nat}{F:Addr}{fd:FuncData}{ps:List Str}{x:Str}{p pos:Pos}{e:Expr}{es:List Expr}{fs:List Dm.FE}{bad:List Dm.Dat->Bool}{R S:Dm.Env->Option Dm.Env}
theorem HN{pins:List (Addr×Obj)}{σ:L2.St}{H:Hp}{s:Shared}{Q:VK}{us:List Value}{vs:List V}(G:aV X.prog X.w X.K X.mg X.base (CXE X.prog X.w C) k F fd ps (spX C bad))(hr:b5 k X.A)(hb:Binds X.K fd ps [])(hx:wC C X E)
  (I:Inv X pins σ H s) (r:Vals vs us) (h:spX C bad vs H Q (E σ)):wpAny (model X.prog X.w) X.A (call (.ref F) us) (EP X pins σ Q) X.xe s:=by
 have hl:(us++[]).length=ps.length:=by rw[Tz,<- r.length];exact G.len _ _ _ _ h
 have hb':=hb s us I.kIn hl;rw[Tz]at hb';refine wpAny_call (codeAny_mono (G.run X.A X.stack s H ⟨us,[]⟩ us vs Q (E σ) hr I.Lj hb' r h) fun r s' hq=>?_);cases r with
 |error e=>exact hx pins σ H s e s' I hq
 |ok fl=>
  cases fl with
  |ret u=>exact I.after hq
  |next=>exact SQ hq
  |brk=>exact SQ hq
  |cont=>exact SQ hq
theorem Aq{σ:L2.St}{H:Hp}(h:tX C E (Dm.bA bad fs) σ H)(Q:VK):tDA fs σ H fun vs H1=>spX C bad vs H1 Q (E σ):=by
 obtain⟨H0,ρ,ρ',st,hR,k⟩:=h;unfold Dm.bA at hR;split at hR
 ·cases hR
 rename_i xs ρ1 e1;split at hR
 ·cases hR
 rename_i ds p1;split at hR
 case isFalse=>cases hR
 rename_i hbad;cases hR;refine⟨H0,ρ,xs,ρ',st,e1,fun vs H1 Hb t1 r1=>?_⟩;obtain⟨ρ2,e2⟩:=j7 p1;obtain⟨H2,t2,b2,r2⟩:=takes t1 (av.refl _) r1 e2;exact⟨H2,ds,t2.st.same,r2,hbad,fun a H0' H' g=>k a H1 H' (t1.trans (.grow t1.st ⟨av.refl _,g.s1,fun a o q=>.inr q,t1.st.same.trans g.s1⟩))⟩
theorem x_call(G:aV X.prog X.w X.K X.mg X.base (CXE X.prog X.w C) k F fd ps (spX C bad))(hr:b5 k X.A)(hg:Gl X x)(hm:X.mg x=some (.ref F))(hk:Tw X.K (.ref F)=true)(hb:Binds X.K fd ps [])(hx:wC C X E)
  (ha:DA X (e::es) fs) (hdb:(x == ("__debug__" : Str))=false:=by decide) (he:starEach (e::es) X.env=(false,eval e X.env)::starEach es X.env:=by rfl) (hpl:(backTo pos (starEach es X.env)).any (·.1)=false:=by rfl) :
  XE X C E (.Call (.Name x p) (e::es) [] pos) (Dm.bA bad fs):=by
 intro pins s σ H Q I h;refine wpAny_Call_Name_kw (jA I hg hm ?_ hdb);refine Ve (h₀:=X.base) I.ok.mod.kin hk (thn (ha pos pins s σ H _ I (Aq h Q)) fun us s1 ⟨vs,H1,I1,r,q⟩=>⟨I1.kIn,?_⟩) he hpl;exact HN G hr hb hx I1 r q
theorem dO(h:XE X C E e R)(hs:swapsWith e none pos.line X.env=pure false:=by rfl):XS X C E (.Expr e pos) R:=PS.weak (jB h hs) fun _ _ _ q=>q
end
section
variable{P:Program}{w:World}{K:gV}{mg:Str->Option Value}{base:Heap}{N:List Str}{qual:Str}{scope:Scope}{f:Addr}{cd:Value}{A:Around}{outer:List Env}{s₀:Shared}{H₀:Hp}{E:XK}{C:Addr}
theorem n9:wC C (gT (CXE P w C) P w K mg base N qual scope f cd A outer s₀ H₀ E) (fun _=>E):=fun pins σ H s e s' I q=>Pj pins σ H s e s' I q
theorem x_raise{x:Str}{bmB:List Value}{B newId initId:String}{np cpos pos:Pos}(O:OwnCls x C bmB newId mg base)(FB:ExcBaseFacts B newId initId bmB)(hg:Gl (gT (CXE P w C) P w K mg base N qual scope f cd A outer s₀ H₀ E) x)(hdb:(x == ("__debug__" : Str))=false:=by decide) :
  XS (gT (CXE P w C) P w K mg base N qual scope f cd A outer s₀ H₀ E) C (fun _=>E) (.Raise (some (.Call (.Name x np) [] [] cpos)) none pos) Dm.HF:=
 BK rfl hg O FB (fun pins σ H s h' e I ⟨H0,ρ,ρ',st,hR,k⟩ hm=>HM I hm (k e _ _ (by cases hR;exact ESt.refl st))) hdb
end
theorem uX{C:Addr}{n m:Nat}{R:Dm.Env->Option Dm.Env}{vs:List V}{H:Hp}{Q:VK}{E:XK}(h:spX C (Dm.fnX n m R) vs H Q E):vs.length=n:=by obtain⟨H0,ds,s,rs,e,k⟩:=h;unfold Dm.fnX at e;rw[Td,decide_eq_true_eq]at e;rw[rs.length];exact e.1
theorem DV{N:List Str}{n m:Nat}{vs:List V}{H0 H:Hp}{ds:List Dm.Dat}(hm:N.length=n+m)(hvn:vs.length=n)(s:av H0 H)(rs:aH H0 vs ds) :
  az H0 H (start N vs) (ds.map Dm.Cell.sh++Dp m .un)/\∀a,¬ao (start N vs) (ds.map Dm.Cell.sh++Dp m .un) a:=by
 have hl:=rs.length;refine ⟨?_,fun a ⟨i,d,h1,_⟩=>by
  by_cases hi:i<ds.length
  ·rw[SG (by simpa using hi),SM]at h1;cases q:ds[i]? with
   |none=>rw[q]at h1;cases h1
   |some y=>rw[q]at h1;cases h1
  ·rw[SW (by simpa using hi),S8]at h1;split at h1<;>cases h1⟩
 refine⟨s,?_,fun i d h=>?_,fun i d h=>?_,fun i j d e a h1 h2 _ _=>?_⟩
 ·unfold L2.start;simp only[SK,Sx,Us];omega
 ·have hi:i<ds.length:=by
   by_cases hi:i<ds.length
   ·exact hi
   ·rw[SW (by simpa using hi),S8]at h;split at h<;>cases h
  rw[SG (by simpa using hi),SM]at h;cases q:ds[i]? with
  |none=>rw[q]at h;cases h
  |some y=>rw[q]at h;cases h;obtain⟨v,hv,r⟩:=rs.get q;refine⟨v,?_,r⟩;unfold L2.start;rw[SG (by simpa [hl] using hi),SM,hv];rfl
 ·by_cases hi:i<ds.length
  ·rw[SG (by simpa using hi),SM]at h;cases q:ds[i]? with
   |none=>rw[q]at h;cases h
   |some y=>rw[q]at h;cases h
  ·rw[SW (by simpa using hi),S8]at h;split at h<;>cases h
 ·by_cases hi:i<ds.length
  ·rw[SG (by simpa using hi),SM]at h1;cases q:ds[i]? with
   |none=>rw[q]at h1;cases h1
   |some y=>rw[q]at h1;cases h1
  ·rw[SW (by simpa using hi),S8]at h1;split at h1<;>cases h1
end Br
namespace PySem.W
open PySem PySem.Spec PySem.Calls PyProof.Rows
structure j8(K:Frag)(C:Addr):Prop where
 ga:findIn K (.ref C) "__getattribute__" = some (some (.builtin "BaseException.__getattribute__"))
 gn:findIn K (.ref C) "__getattr__" = some none
 cl:findIn K (.ref C) "__class__" = some (some (.builtin "object.__class__"))
 mB:mroIn K C (.type "BaseException")=some true
 mO:mroIn K C (.type "object")=some true
noncomputable def sQ(x C:Addr)(h:Heap):Prop:=∃ox,h.get? x=some ox/\ox.cls=.ref C
theorem jF{x C:Addr}{M:Model}{h:Heap}(p:sQ x C h):Looks M h (typeOf (.ref x)) (.ref C):=by obtain⟨o,h1,h2⟩:=p;exact h2▸(Looks.ld h1).andThen .now
section
variable{prog:Program}{w:World}{A:Around}{K:Frag}{x C:Addr}{s:Shared}{R:Result->Shared->Prop}
theorem yZ{tp:Value}(X:K.In s.heap)(I:sQ x C s.heap)(hm:mroIn K C (.type "object")=some true)
  (h:R (.ok (.ret (.ref C))) s):codeAny (model prog w) A (.call (.builtin "getset_descriptor.__get__") ⟨[.builtin "object.__class__",.ref x,tp],[]⟩) R s:=by
 obtain⟨hh,g,dr,t,os⟩:=s;have L0:=jF (M:=model prog w) I;have L1:=looks_mroIn (M:=model prog w) X hm;refine codeAny_call_builtin KF.slot_gs.plain KF.entry_gs (KF.slot_gs.check _ _ _ _ _ _ _ _ KF.type_class (KF.args_gs _ _ _) ?_);unfold Builtin.«getset_descriptor.__get__» Builtin.Getset_descriptor.descrGet;rw[dga_obj];refine wpAny_bind (wpAny_pure ?_);unfold Builtin.Getset_descriptor.descrGetter Builtin.Getset_descriptor.descrCheckInstance Builtin.Getset_descriptor.descrNameAndClass isInstance;simp only[KF.owner_class]
 repeat lk
 refine⟨Code.quiet_builtin _ (by decide +kernel),codeAny_builtin KF.entry_class ?_⟩;unfold Builtin.«object.__class__» shownTypeOf
 repeat lk
 exact h
end
section
variable{prog:Program}{w:World}{A:Around}{E:Value->Shared->Prop}{K:Frag}{x C:Addr}{ox:Obj}{h:Heap}{g:Array GenState}{d:Drawn}{t:Nat}{os:OsState}
theorem DX{M:Model}{nameV:Value}{Q:Unit->Shared->Prop}(Z:j8 K C)(X:K.In h)(I:sQ x C h)(hq:Q () ⟨h,g,d,t,os⟩):wpAny M A (checkBuiltinCall "BaseException.__getattribute__" ⟨[.ref x,nameV],[]⟩) Q E ⟨h,g,d,t,os⟩:=by
 have hk:builtinKind "BaseException.__getattribute__" = some .slot:=by decide +kernel
 have hsplit:splitId "BaseException.__getattribute__" = some ("BaseException","__getattribute__"):=by decide +kernel
 have L0:=jF (M:=M) I;have L1:=looks_mroIn (M:=M) X Z.mB;have LI:Looks M h (isInstance (.ref x) (.type "BaseException")) true:=L0.andThen L1;have ha:=PySem.F.args_bexc_ga (.ref x) nameV;simp only[checkBuiltinCall,hk,hsplit];refine wpAny_bind (LI.at ?_)
 repeat (first | assumption | wp_step)
theorem DY{tk:Tok}{Q:Fin->Shared->Prop}(Z:j8 K C)(X:K.In h)(I:sQ x C h)(hq:Q (.done (.ret (.ref C))) ⟨h,g,d,t,os⟩) :
  wpAny (model prog w) A (Builtin.«object.__getattribute__» ⟨[.ref x,.str "__class__" tk],[]⟩) Q E ⟨h,g,d,t,os⟩:=by
 have hT5:(⟨h,g,d,t,os⟩:Shared).TypeIs (.builtin "object.__class__") "getset_descriptor" := F.typeOf_object_class;have f5:=F.typeOf_object_class;have f6:=F.slot_gs_get.lookup;have f7:=F.slot_gs_set.lookup;have L0:=jF (M:=model prog w) I;have L1:=looks_findIn (M:=model prog w) X Z.cl
 repeat (any_goals (first | assumption | with_reducible refine L0.at ?_ | with_reducible refine L1.at ?_ | wp_step))
 refine yZ X I Z.mO ?_
 repeat (any_goals (first | assumption | wp_step))
theorem HP{tk:Tok}{R:Result->Shared->Prop}(Z:j8 K C)(X:K.In h)(I:sQ x C h)(hq:R (.ok (.ret (.ref C))) ⟨h,g,d,t,os⟩) :
  codeAny (model prog w) A (.call (.builtin "BaseException.__getattribute__") ⟨[.ref x,.str "__class__" tk],[]⟩) R ⟨h,g,d,t,os⟩:=
 codeAny_call_builtin PySem.F.excAttr_ValueError.ga.plain PySem.F.entry_bexc_ga (DX Z X I (DY Z X I hq))
theorem Pn{tk:Tok}{Q:Value->Shared->Prop}(Z:j8 K C)(X:K.In h)(I:sQ x C h)(hq:Q (.ref C) ⟨h,g,d,t,os⟩) :
  wpAny (model prog w) A (getAttrBy (.ref x) (.str "__class__" tk) false) Q E ⟨h,g,d,t,os⟩:=by
 have f3:=PySem.F.excAttr_ValueError.ga.bind (.ref x);have hx2:(Vk "BaseException.__getattribute__" == Vk "object.__getattribute__")=false:=by decide +kernel
 have hx1:(onTheHeap (S4 C)&&Vk "BaseException.__getattribute__" == Vk "object.__getattribute__")=false:=by rw[hx2];rfl
 have L0:=jF (M:=model prog w) I;have L1:=looks_findIn (M:=model prog w) X Z.ga;have L2:=looks_findIn (M:=model prog w) X Z.gn
 repeat (any_goals (first | assumption | with_reducible refine L0.at ?_ | with_reducible refine L1.at ?_ | with_reducible refine L2.at ?_ | wp_step))
 refine HP Z X I ?_
 repeat (any_goals (first | assumption | wp_step))
theorem HQ{s:Shared}{Q:Option Value->Shared->Prop}(Z:j8 K C)(X:K.In s.heap)(I:sQ x C s.heap)(hq:Q (some (.ref C)) { s with toks:=s.toks+1 }):wpAny (model prog w) A (getAttr? (.ref x) "__class__") Q E s:=by
 obtain⟨h,g,d,t,os⟩:=s;unfold getAttr? getAttrBy?
 repeat (any_goals (first | assumption | with_reducible apply Pn Z X I | wp_step))
theorem wD(Z:j8 K C)(hc:(clsIn K C).isSome=true):KitX K (.ref x) (.ref C) (sQ x C) where
 ty:=fun _ _ _ I=>jF I
 it:=fun _ _ X _=>by
  unfold clsIn at hc;split at hc
  ·rename_i c' d' cd' sl' ho;intro A' Q' E' s' k q;unfold isType loadHead;exact wpAny_bind (wpAny_loadPart (k _ _ (X _ _ ho)) (wpAny_pure q))
  ·cases hc
 ne:=fun h tp dd its n sl X htp=>by
  refine Bool.eq_false_iff.mpr fun q=>?_;have e:C=tp:=S4.inj (beq_iff_eq.mp q);subst e;unfold clsIn at hc;split at hc
  ·rename_i c' d' cd' sl' ho;have z:=(X _ _ ho).symm.trans htp;cases z
  ·cases hc
 ca:=fun X I k=>HQ Z X I k
end
end PySem.W
namespace PySem
theorem n_{α:Type}(p:α->Bool):∀(l:List α) (i:Nat) (x:α),l[i]?=some x->p x=false->(l.eraseIdx i).find? p=l.find? p
 |[],i,x,h,_=>by simp at h
 |y::l,0,x,h,hp=>by simp only[List.getElem?_cons_zero,Option.some.injEq]at h;subst h;rw[List.eraseIdx_cons_zero,TL,hp]
 |y::l,i+1,x,h,hp=>by rw[List.eraseIdx_cons_succ,TL,TL,n_ p l i x (by simpa using h) hp]
theorem sS{es:Array DictEntry}{i:Nat}{name y:Str}(hi:es.findIdx? (·.key.isStr name)=some i)(hy:y≠name):nsFind (es.eraseIdxIfInBounds i) y=nsFind es y:=by
 obtain⟨hlt,hp,_⟩:=Array.findIdx?_eq_some_iff_getElem.mp hi;have hq:(es[i]).key.isStr y=false:=by
  cases hk:(es[i]).key with
  |str z t=>rw[hk]at hp;simp only[VL,beq_iff_eq]at hp;simp only[VL,beq_eq_false_iff_ne];intro e;exact hy (e.symm.trans hp)
  |_=>rw[hk]at hp;simp[VL]at hp
 have h2:(es.eraseIdxIfInBounds i).toList=es.toList.eraseIdx i:=by unfold Array.eraseIdxIfInBounds;rw[dif_pos hlt,Array.toList_eraseIdx]
 unfold nsFind findBy;rw[<- Vd,<- Vd,h2,n_ _ _ i es[i] (by rw[UE,Array.getElem?_eq_getElem hlt]) hq]
section
variable{M:Model}{A:Around}{E:Value->Shared->Prop}{s:Shared}{env:Env}
theorem uY{a:Addr}{m}{name:Str}{Q:Bool->Shared->Prop}(hn:s.heap.Ns a m)
  (hQ:∀h' m',h'.Ns a m'->(∀y,y≠name->m' y=m y)->UP a s.heap h'->Q (m name).isSome { s with heap:=h' }):wpAny M A (nsDel a name) Q E s:=by
 obtain⟨o,es,ep,ho,hd,hk,hm⟩:=id hn;have hany:es.any (·.refKey)=false:=by rw[Array.any_eq_false'];intro e he;obtain⟨n,t,h⟩:=hk e he;simp[DictEntry.refKey,h]
 have hsome:(m name).isSome=es.any (·.key.isStr name):=by
  rw[<- hm name];simp only[nsFind,findBy,UD];rw[VA];simp only[Array.find?_isSome,Array.any_eq_true];constructor
  ·rintro⟨x,hx,hp⟩;obtain⟨i,hi,rfl⟩:=Array.mem_iff_getElem.mp hx;exact⟨i,hi,hp⟩
  ·rintro⟨i,hi,hp⟩;exact⟨_,Array.getElem_mem hi,hp⟩
 have hhas:nsHas name o=pure (es.any (·.key.isStr name)):=by
  rw[nsHas_eq];unfold nsHasByArray;rw[hd];show (if (es.any fun x=>x.key.isStr name)=true then _ else _)=_
  generalize (es.any fun x=>x.key.isStr name)=b
  cases b<;>simp[hany]
 unfold nsDel;refine wpAny_bind (wpAny_loadPart ho ?_);rw[hhas];refine wpAny_bind (wpAny_pure ?_);rw[<- hsome];cases hmn:(m name).isSome
 ·have:=hQ s.heap m hn (fun _ _=>rfl) (.refl ..);rw[hmn]at this;exact wpAny_pure this
 ·refine wpAny_bind (wpAny_updatePart ho (wpAny_pure ?_));have key:∃m',(s.heap.update a (Obj.dropName name)).Ns a m'/\∀y,y≠name->m' y=m y:=by
   obtain⟨cl,d,dt,sl⟩:=o;subst hd;cases hi:es.findIdx? (·.key.isStr name) with
   |some i=>exact⟨nsFind (es.eraseIdxIfInBounds i),⟨_,_,ep+1,Ua _ ho (by simp only[U6,UM,hi]<;>rfl),(by simp only[U6,UM,hi]<;>rfl),hk.erase i,fun _=>rfl⟩,fun y hy=>by rw[sS hi hy,hm]⟩
   |none=>exact⟨nsFind es,⟨_,_,ep,Ua _ ho (by simp only[U6,UM,hi]<;>rfl),(by simp only[U6,UM,hi]<;>rfl),hk,fun _=>rfl⟩,fun y _=>hm y⟩
  obtain⟨m',hm',hy⟩:=key;have:=hQ _ m' hm' hy (UP.update ..);rw[hmn]at this;exact this
theorem o7{n:Str}{pos:Pos}{m:Str->Option Value}{Q:Unit->Shared->Prop}(hl:env.kindOf n=some .local)(hn:s.heap.Ns env.locals m)
  (hp:(env.scope.kind == .class||(env.scope.kind == .module&&env.locals != env.globals))=false)
  (h:∀h' m',h'.Ns env.locals m'->(∀y,y≠n->m' y=m y)->UP env.locals s.heap h'->Q () { s with heap:=h',toks:=s.toks+1 }) :
  wpAny M A (do bindName env n .none;unbindBehindTheSuite env n pos) Q E s:=by
 refine wpAny_bind (wpAny_bindName (wpAny_storeName_local hl hn (fun h₁ hn₁ hs₁=>?_) hp));unfold unbindBehindTheSuite;refine wpAny_onRaise ?_;unfold unbindName;refine wpAny_bind (wpAny_point (wpAny_bind ?_));unfold deleteName;simp only[hl,hp];rw[if_neg (by decide)];refine wpAny_bind (uY hn₁ fun h₂ m₂ hn₂ hy hs₂=>?_);simp only[if_true,Vf,Bool.not_true,Ub,if_false];exact wpAny_pure (wpAny_point (h h₂ m₂ hn₂ (fun y hny=>(hy y hny).trans (if_neg hny)) (hs₁.trans hs₂)))
end
end PySem
namespace PySem.W
open PySem PySem.Spec PySem.Calls PyProof.Rows
structure l_(K:Frag)(C CP:Addr):Prop where
 ty:typeIn K (.ref CP)=some (.type "type")
 cl:(clsIn K CP).isSome=true
 mB:mroIn K CP (.type "BaseException")=some true
 mP:mroIn K C (.ref CP)=some true
theorem wF{M:Model}{A:Around}{E:Value->Shared->Prop}{K:Frag}{x C CP:Addr}{h:Heap}{g:Array GenState}{d:Drawn}{t:Nat}{os:OsState}{Q:Bool->Shared->Prop}
  (Z:l_ K C CP) (X:K.In h) (I:sQ x C h) (hq:Q true ⟨h,g,d,t,os⟩):wpAny M A (excMatches (.ref x) (.ref CP)) Q E ⟨h,g,d,t,os⟩:=by
 have L0:=jF (M:=M) I;have L1:=looks_typeIn (M:=M) X Z.ty;have L2:=looks_mroIn (M:=M) X Z.mB;have L3:=looks_mroIn (M:=M) X Z.mP;have L4:Looks M h (isType (.ref CP)) true:=by
  have hc:=Z.cl;unfold clsIn at hc;split at hc
  ·rename_i c' d' cd' sl' ho;intro A' Q' E' s' k q;unfold isType loadHead;exact wpAny_bind (wpAny_loadPart (k _ _ (X _ _ ho)) (wpAny_pure q))
  ·cases hc
 have LT:Looks M h (isSubtype (.type "type") (.type "tuple")) false:=Looks.of_pure tc_notTuple;unfold excMatches isInstance
 repeat lk
 exact hq
end PySem.W
namespace L2
open PySem PySem.Spec PyProof.Rows
section
variable{X:Cx}{pins:List (Addr×Obj)}{σ:L2.St}{H:Hp}{s:Shared}
theorem Inv.fly(I:Inv X pins σ H s){h'' B:Heap}{t':Nat}(hx:X.ex=[])(hB:∀b o,s.heap.get? b=some o->b∉frs X.stack->((X.s₀.heap.get? b).isSome=true\/(H b).isSome=true\/∃p∈X.pn++pins,p.1=b)->B.get? b=some o)
  (k1:B.StaysIn h'') (sl:s.heap.UpToSlots h''):Inv X pins σ H { s with heap:=h'',toks:=t' }:=by
 obtain⟨u1,u2,_⟩:=I.out (h'':=h'') (Bh:=B) hx (fun b o e hb hh=>hB b o e hb (hh.imp id .inl)) k1 sl;have cellK:∀c v,s.heap.IsCell c v->h''.IsCell c v:=fun c v ⟨o,ho,hd⟩=>by
  obtain⟨sl',e⟩:=sl c o ho fun vs q=>by rw[hd]at q;cases q
  exact⟨_,e,hd⟩
 refine⟨I.ok,I.os,I.bare,by rw[hx];exact u1,?_,fun x c e=>?_,I.free,I.dG,fun p hp=>?_,u2,I.len⟩
 ·obtain⟨m,hn,hl⟩:=I.loc;refine⟨m,sl.ns hn,fun i x v e1 e2 e3=>?_⟩;obtain⟨u,r,l⟩:=hl i x v e1 e2 e3;refine⟨u,r,?_⟩;rcases l with l | ⟨k,c,e,z⟩
  ·exact .inl l
  ·exact .inr ⟨k,c,e,cellK c _ z⟩
 ·obtain⟨v,z⟩:=I.cell x c e;exact⟨v,cellK c v z⟩
 ·obtain⟨e,n,ne,nf,d⟩:=I.pin p hp;exact⟨k1 _ _ (hB p.1 p.2 e (fun z=>(SH.mp (I.pJ _ z)).elim ne nf) (.inr (.inr ⟨p,hp,rfl⟩))),n,ne,nf,d⟩
theorem Inv.Po(I:Inv X pins σ H s){ea:Addr}{o:HO}(n:H ea=none)(hok:br X.prog X.w (upd H ea o) s.heap ea o)(n0:X.s₀.heap.get? ea=none)(nl:ea≠X.env.locals)(nc:∀x c,X.env.cells.lookup x=some c->c≠ea)
  (np:∀p∈X.pn++pins,p.1≠ea):Inv X pins σ (upd H ea o) s:=by
 have ne:∀b u,H b=some u->b≠ea:=fun b u e z=>by rw[z,n]at e;cases e
 have n1:∀b u,X.s₀.heap.get? b=some u->b≠ea:=fun b u e z=>by rw[z,n0]at e;cases e
 refine⟨I.ok,I.os,I.bare,⟨I.base.keep,I.base.slot,fun b u e q hx=>?_,I.base.there,fun b xs e=>?_,fun b u v e=>?_,fun b ps e=>?_⟩,I.loc,I.cell,?_,fun x c e=>?_,fun p hp=>?_,fun b u e=>?_,I.len⟩
 ·rw[aj (n1 b u e)];exact I.base.free b u e q hx
 ·have:=I.base.tups b xs e;rw[aj (ne b _ this)];exact this
 ·have:=I.base.jZ b u v e;rw[aj (ne b _ this)];exact this
 ·obtain⟨more,h⟩:=I.base.m7 b ps e;exact⟨more,by rw[aj (ne b _ h)];exact h⟩
 ·rw[aj (Ne.symm nl)];exact I.free
 ·rw[aj (nc x c e)];exact I.dG x c e
 ·obtain⟨e,q,a,b,d⟩:=I.pin p hp;exact⟨e,by rw[aj (np p hp)];exact q,a,b,d⟩
 ·by_cases hb:b=ea
  ·subst hb;rw[au]at e;cases e;exact hok
  ·rw[aj hb]at e;exact(I.hok b u e).stay (fun c v _ q=>q) (fun c q=>by rw[aj (ne c _ q)];exact q) fun c xs q=>by rw[aj (ne c _ q)];exact q
theorem name_goes{M:Model}{A:Around}{E:Value->Shared->Prop}{i:Nat}{n:Str}{pos:Pos}{Q:Unit->Shared->Prop}(I:Inv X pins σ H s)(hN:X.N.Nodup)(hi:X.N[i]?=some n)(hk:X.env.kindOf n=some .local)
  (h:∀s',Inv X pins (σ.set i none) H s'->Q () s'):wpAny M A (do bindName X.env n .none;unbindBehindTheSuite X.env n pos) Q E s:=by
 obtain⟨m,hn,hl⟩:=id I.loc;have hcls:(X.env.scope.kind == .class||(X.env.scope.kind == .module&&X.env.locals != X.env.globals))=false:=by rw[I.ok.kind];rfl
 have cne:=I.cne;refine o7 hk hn hcls fun h' m' hn' hy hs=>?_;have low:∀b o,X.s₀.heap.get? b=some o->b≠X.env.locals:=fun b o e=>S0 (SN (SD e) I.ok.above);refine h _ ⟨I.ok,I.os,I.bare,⟨fun b o e n hb hx=>?_,fun b o e n hb hx=>?_,I.base.free,fun b o e hx=>?_,I.base.tups,I.base.jZ,I.base.m7⟩,⟨m',hn',fun j y v' e1 e2 e3=>?_⟩,fun y c e=>?_,I.free,I.dG,fun p hp=>?_,fun b u e=>?_,by simpa using I.len⟩
 ·exact(hs.2 b (low b o e)).trans (I.base.keep b o e n hb hx)
 ·obtain⟨sl,e1⟩:=I.base.slot b o e n hb hx;exact⟨sl,(hs.2 b (low b o e)).trans e1⟩
 ·obtain⟨o',e1⟩:=I.base.there b o e hx;exact⟨o',(hs.2 b (low b o e)).trans e1⟩
 ·have hj:j≠i:=fun z=>by
   subst z;by_cases hlt:j<σ.length
   ·rw[SS hlt]at e2;cases e2
   ·rw[Tc (by simpa using hlt)]at e2;cases e2
  rw[eg (Ne.symm hj)]at e2;obtain⟨u',r',q⟩:=hl j y v' e1 e2 e3;refine⟨u',r',?_⟩;rcases q with⟨k,e⟩ | ⟨k,c,e,z⟩
  ·exact .inl ⟨k,by rw[hy y fun e=>hj (pK hN e1 (e▸hi))];exact e⟩
  ·obtain⟨o,ho,hd⟩:=z;exact .inr ⟨k,c,e,o,(hs.2 c (cne y c e)).trans ho,hd⟩
 ·obtain⟨v,o,ho,hd⟩:=I.cell y c e;exact⟨v,o,(hs.2 c (cne y c e)).trans ho,hd⟩
 ·obtain⟨e,q,a,b,d⟩:=I.pin p hp;exact⟨(hs.2 _ a).trans e,q,a,b,d⟩
 ·refine(I.hok b u e).stay (fun c v hc q=>(hs.2 c ?_).trans q) (fun _ q=>q) fun _ _ q=>q;rintro rfl;rcases hc with rfl | hc
  ·rw[I.free]at e;cases e
  ·rw[I.free]at hc;cases hc
end
end L2
namespace Br
open PySem PySem.Spec PyProof.Rows L2
theorem az.drop{H0 H:Hp}{σ:L2.St}{ρ:Dm.Env}(st:az H0 H σ ρ)(i:Nat):az H0 H (σ.set i none) (ρ.set i .un):=by
 have m:=st.mask i;have ne:∀{j:Nat} {c:Dm.Cell},(ρ.set i .un)[j]?=some c->c≠.un->j≠i:=fun {j c} e hc z=>by
  subst z;by_cases hlt:j<ρ.length
  ·rw[SS hlt]at e;cases e;exact hc rfl
  ·rw[Tc (by simpa using hlt)]at e;cases e
 have gs:∀{j:Nat},j≠i->(σ.set i none)[j]?=σ[j]?:=fun {j} h=>eg (Ne.symm h);refine⟨m.same,by rw[S3];exact m.len,fun j d e=>?_,fun j d e=>?_,fun j k d e a h1 h2 h3 h4=>?_⟩
 ·rw[gs (ne e (by simp))];exact m.sh j d e
 ·rw[gs (ne e (by simp))];exact m.ow j d e
 ·rw[gs (ne h1 (by simp))]at h3;rw[gs (ne h2 (by simp))]at h4;exact m.dis j k d e a h1 h2 h3 h4
theorem SSt.drop{H0 H:Hp}{σ:L2.St}{ρ:Dm.Env}(st:az H0 H σ ρ){i:Nat}(h0:i≠0):SSt σ ρ H0 H (σ.set i none) (ρ.set i .un) H0 H:=by
 refine⟨az.drop st i,Stp.refl _ _ _,fun a ⟨j,d,h1,h2⟩=>.inl ?_,eg h0⟩;by_cases hj:i=j
 ·subst hj;by_cases hlt:i<ρ.length
  ·rw[SS hlt]at h1;cases h1
  ·rw[Tc (by simpa using hlt)]at h1;cases h1
 ·rw[eg hj]at h1 h2;exact⟨j,d,h1,h2⟩
noncomputable def φX(ea C:Addr):HO:=.ext fun h=>∃o,h.get? ea=some o/\o.cls=.ref C
theorem φX_ok{P:Program}{w:World}{H:Hp}{h:Heap}{ea C:Addr}{o:Obj}(e:h.get? ea=some o)(c:o.cls=.ref C):br P w H h ea (φX ea C):=
 ⟨⟨o,e,c⟩,⟨o,e⟩,fun _ _ ⟨o,e,c⟩ k=>⟨o,k o e,c⟩⟩
noncomputable def Cx.in'(X:Cx)(pn:List (Addr×Obj))(xe:Value->Shared->Prop):Cx:={ X with pn:=X.pn++pn,xe:=xe }
noncomputable def Cx.sub'(X:Cx)(A:Around)(xe:Value->Shared->Prop):Cx:={ X with A:=A,calm:=false,xe:=xe }
section
variable{X:Cx}{pins pn:List (Addr×Obj)}{σ:L2.St}{H:Hp}{s:Shared}{xe:Value->Shared->Prop}
theorem DZ(I:Inv X pn σ H s):Inv (Cx.in' X pn xe) [] σ H s:=
 ⟨⟨I.ok.1,I.ok.2,I.ok.3,I.ok.4,I.ok.5,I.ok.6,I.ok.7,I.ok.8,I.ok.9,I.ok.10,I.ok.11,I.ok.12,I.ok.13,I.ok.14,I.ok.15,I.ok.16,I.ok.17,I.ok.18⟩,I.os,I.bare,I.base,I.loc,I.cell,I.free,I.dG,fun p hp=>I.pin p (by rw[Tz]at hp;exact hp),I.hok,I.len⟩
theorem jG(I:Inv (Cx.in' X pn xe) pins σ H s):Inv X pn σ H s:=
 ⟨⟨I.ok.1,I.ok.2,I.ok.3,I.ok.4,I.ok.5,I.ok.6,I.ok.7,I.ok.8,I.ok.9,I.ok.10,I.ok.11,I.ok.12,I.ok.13,I.ok.14,I.ok.15,I.ok.16,I.ok.17,I.ok.18⟩,I.os,I.bare,I.base,I.loc,I.cell,I.free,I.dG,fun p hp=>I.pin p (To _ hp),I.hok,I.len⟩
theorem Ar{A:Around}(hA:A.frames=X.A.frames)(I:Inv X pins σ H s):Inv (Cx.sub' X A xe) pins σ H s:=
 ⟨⟨I.ok.1,I.ok.2,I.ok.3,I.ok.4,I.ok.5,I.ok.6,I.ok.7,I.ok.8,(fun h=>nomatch h),hA.trans I.ok.10,I.ok.11,I.ok.12,I.ok.13,I.ok.14,I.ok.15,I.ok.16,I.ok.17,I.ok.18⟩,I.os,I.bare,I.base,I.loc,I.cell,I.free,I.dG,I.pin,I.hok,I.len⟩
theorem tW{A:Around}(ok:X.Ok)(I:Inv (Cx.sub' X A xe) pins σ H s):Inv X pins σ H s:=
 ⟨ok,I.os,I.bare,I.base,I.loc,I.cell,I.free,I.dG,I.pin,I.hok,I.len⟩
end
structure oj(K:gV)(C:Addr):Prop where
 get:PySem.W.j8 K C
 cls:(UY K C).isSome=true
noncomputable def Pp(K:gV)(C:Addr)(c:V)(b:Bool):List V->Hp->VK->Prop:=fun xs H Q=>∃a,xs=[.ref a,c]/\H a=some (φX a C)/\Q (.bl b) H
section
variable{X:Cx}{C:Addr}{e:Expr}{f:Dm.FE}{p p2 pos:Pos}{b:Bool}
theorem JL{pins:List (Addr×Obj)}{σ:L2.St}{H:Hp}{s:Shared}{a:Addr}(I:Inv X pins σ H s)(h:H a=some (φX a C)):PySem.W.sQ a C s.heap:=(I.hok a _ h).1
theorem wG{c:V}{u2:Value}(hc:RelV c u2)(hu:∀u,RelV c u->u=u2)(Z:oj X.K C)(k:SO X.K (.ref C) u2=some b):fm X (.builtin "isinstance") (Pp X.K C c b):=by intro pins s σ H xs us Q I r h;obtain⟨a,rfl,ha,q⟩:=h;obtain⟨u,u3,rfl,rx,ry⟩:=vals2 r;cases rx;obtain rfl:=hu u3 ry;exact TJ (PySem.W.wD Z.get Z.cls) I.kIn (JL I ha) k (by intro q;cases q) fun tk=>⟨.bl b,H,I.tok tk,rfl,q⟩
theorem JM{c:V}{σ:L2.St}{H:Hp}{Q:VK}(h:tD (Dm.e1 (Dm.uW C b) f) σ H Q):tCB (Pp X.K C c b) (lT (tD f) (lT (tC c) uG)) σ H Q:=by
 obtain⟨H0,ρ,x,ρ',st,e,k⟩:=h;unfold Dm.e1 at e;split at e
 ·cases e
 rename_i x1 ρ1 e1;split at e
 ·cases e
 rename_i dx p1;cases dx with
 |exc C'=>
  unfold Dm.uW at e;dsimp only at e;by_cases hC:C'=C
  ·subst hC;rw[if_pos rfl]at e;cases e;refine⟨H0,ρ,x1,_,st,e1,fun v H1 Hb t1 r1=>?_⟩;have rv:Rep Hb v (.exc C'):=(r1.look t1.st p1).full t1.st.same;cases rv with
   |exc q=>exact⟨_,rfl,q,k _ H1 Hb t1 (Rep.bl _)⟩
  ·rw[if_neg hC]at e;cases e
 |_=>cases e
theorem ck{D:Addr}{tn:Str}(Z:oj X.K C)(k:SO X.K (.ref C) (.ref D)=some b)(hgT:Gl X tn)(hmT:X.mg tn=some (.ref D))(hg:Gl X "isinstance")(hm:X.mg "isinstance" = none)(h:DE X e f)(hdb:(tn == ("__debug__" : Str))=false:=by decide)
  (he:starEach [e,.Name tn p2] X.env=(false,eval e X.env)::starEach [.Name tn p2] X.env:=by rfl) (hpl:(backTo pos (starEach [.Name tn p2] X.env)).any (·.1)=false:=by rfl) (he2:starEach [.Name tn p2] X.env=(false,eval (.Name tn p2) X.env)::starEach [] X.env:=by rfl) :
  DE X (.Call (.Name "isinstance" p) [e,.Name tn p2] [] pos) (Dm.e1 (Dm.uW C b) f):=
 PE.weak (iP (wG (c:=.ref D) rfl (fun u q=>q) Z k) hg hm Um (dX h (dX (uC (v:=.ref D) hgT hmT rfl hdb) gS he2) he) (he:=he) (hpl:=hpl)) fun _ _ _=>JM
theorem gZ{T:String}{tn:Str}(Z:oj X.K C)(k:SO X.K (.ref C) (.type T)=some b)(hvT:bootBuiltins tn=some (.type T))(hgT:Gl X tn)(hmT:X.mg tn=none)(hg:Gl X "isinstance")(hm:X.mg "isinstance" = none)(h:DE X e f)(hn:tn ≠ "__name__" := by decide)(hdb:(tn == ("__debug__" : Str))=false:=by decide)
  (he:starEach [e,.Name tn p2] X.env=(false,eval e X.env)::starEach [.Name tn p2] X.env:=by rfl) (hpl:(backTo pos (starEach [.Name tn p2] X.env)).any (·.1)=false:=by rfl) (he2:starEach [.Name tn p2] X.env=(false,eval (.Name tn p2) X.env)::starEach [] X.env:=by rfl) :
  DE X (.Call (.Name "isinstance" p) [e,.Name tn p2] [] pos) (Dm.e1 (Dm.uW C b) f):=
 PE.weak (iP (wG (c:=.ty T) rfl (fun u q=>by cases q;rfl) Z k) hg hm Um (dX h (dX (zZ (v:=.ty T) hgT hmT hvT rfl hn hdb) gS he2) he) (he:=he) (hpl:=hpl)) fun _ _ _=>JM
end
noncomputable def tK(vs:List V):TA:=fun _ H Q=>Q vs H
noncomputable def Pq(K:gV)(C:Addr)(Ds:List Addr)(b:Bool):List V->Hp->VK->Prop:=fun xs H Q=>∃a tp,xs=[.ref a,.ref tp]/\H a=some (φX a C)/\H tp=some (.tup (Ds.map V.ref))/\Q (.bl b) H
theorem tZ:∀{Ds:List Addr} {us:List Value},Vals (Ds.map V.ref) us->us=Ds.map S4
 |[],_,.nil=>rfl
 |D::Ds,_,.cons r t=>by rw[tZ t];cases r;rfl
section
variable{X:Cx}{C:Addr}{e:Expr}{es:List Expr}{f:Dm.FE}{p p2 pos:Pos}{b:Bool}{Ds:List Addr}
theorem mh:PA X [] (tK []):=gS
theorem cI{D:Addr}{tn:Str}(hgT:Gl X tn)(hmT:X.mg tn=some (.ref D))(h:PA X es (tK (Ds.map V.ref)))(hdb:(tn == ("__debug__" : Str))=false:=by decide)(hs:starEach (.Name tn p2::es) X.env=(false,eval (.Name tn p2) X.env)::starEach es X.env:=by rfl) :
  PA X (.Name tn p2::es) (tK ((D::Ds).map V.ref)):=PA.weak (dX (uC (v:=.ref D) hgT hmT rfl hdb) h hs) fun _ _ _ q=>q
theorem D0(Z:oj X.K C)(k:Uo X.K (.ref C) (Ds.map S4)=some b):fm X (.builtin "isinstance") (Pq X.K C Ds b):=by
 intro pins s σ H xs us Q I r h;obtain⟨a,tp,rfl,ha,ht,q⟩:=h;obtain⟨u,u3,rfl,rx,ry⟩:=vals2 r;cases rx;cases ry;obtain⟨_,its,vr,o,ho,hc,n,hd⟩:=(show br X.prog X.w H s.heap tp (.tup (Ds.map V.ref)) from I.hok tp _ ht)
 obtain rfl:=tZ vr;obtain⟨oc,od,oda,osl⟩:=o;dsimp only at hc hd;subst hc hd;exact PySem.W.kia_tup (PySem.W.wD Z.get Z.cls) I.kIn (JL I ha) ho k (by intro q;cases q) fun tk=>⟨.bl b,H,I.tok tk,rfl,q⟩
theorem Pr{σ:L2.St}{H:Hp}{Q:VK}(hz:Ds.length<=1000)(h:tD (Dm.e1 (Dm.uW C b) f) σ H Q):tCB (Pq X.K C Ds b) (lT (tD f) (lT (Li (tK (Ds.map V.ref))) uG)) σ H Q:=by
 obtain⟨H0,ρ,x,ρ',st,e,k⟩:=h;unfold Dm.e1 at e;split at e
 ·cases e
 rename_i x1 ρ1 e1;split at e
 ·cases e
 rename_i dx p1;cases dx with
 |exc C'=>
  unfold Dm.uW at e;dsimp only at e;by_cases hC:C'=C
  ·subst hC;rw[if_pos rfl]at e;cases e;refine⟨H0,ρ,x1,_,st,e1,fun v H1 Hb t1 r1=>?_⟩;have rv:Rep Hb v (.exc C'):=(r1.look t1.st p1).full t1.st.same;cases rv with
   |exc q=>refine⟨by rw[Sx];exact U4 (Bq hz),fun tp ht=>?_⟩;exact⟨_,tp,rfl,by rw[aj (aO q ht)];exact q,au,k _ H1 _ (t1.trans (.grow t1.st (aQ.oZ t1.st.same ht))) (Rep.bl _)⟩
  ·rw[if_neg hC]at e;cases e
 |_=>cases e
theorem mj{pt:Pos}{cx:Nat}(Z:oj X.K C)(k:Uo X.K (.ref C) (Ds.map S4)=some b)(hT:PA X es (tK (Ds.map V.ref)))(hz:Ds.length<=1000)(hg:Gl X "isinstance")(hm:X.mg "isinstance" = none)(h:DE X e f)
  (he:starEach [e,.Tuple es cx pt] X.env=(false,eval e X.env)::starEach [.Tuple es cx pt] X.env:=by rfl) (hpl:(backTo pos (starEach [.Tuple es cx pt] X.env)).any (·.1)=false:=by rfl) (he2:starEach [.Tuple es cx pt] X.env=(false,eval (.Tuple es cx pt) X.env)::starEach [] X.env:=by rfl) :
  DE X (.Call (.Name "isinstance" p) [e,.Tuple es cx pt] [] pos) (Dm.e1 (Dm.uW C b) f):=
 PE.weak (iP (D0 Z k) hg hm Um (dX h (dX (CJ hT) gS he2) he) (he:=he) (hpl:=hpl)) fun _ _ _=>Pr hz
end
theorem qo{K:gV}{h₀:Heap}{mg:Str->Option Value}{x:Str}{C:Addr}{bmB:List Value}{newId:String}(X:K.In h₀)(G:mg x=some (.ref C))(q:UZ K C bmB newId=true):OwnCls x C bmB newId mg h₀:=by
 refine⟨G,?_⟩;unfold UZ at q;split at q
 ·rename_i dd cd sl ho;split at q
  ·rename_i C' bm k0 k1 k2 k3 n k5 hm hs;simp only[Td,beq_iff_eq,Bool.not_eq_true']at q;obtain⟨⟨⟨⟨⟨rfl,rfl⟩,Pu⟩,ht⟩,hok⟩,hni⟩:=q;obtain⟨nm,bs,mro,ns,qn,hd,sn,sub,ab,col,del⟩:=cd;dsimp only at hm Pu hok hni;subst hm Pu;have hsl:sl=#[k0,k1,k2,k3,some (.builtin n),k5]:=by
    obtain⟨l⟩:=sl;simp only at hs;rw[hs]
   subst hsl;exact⟨bm,ns,nm,qn,bs,hd,sn,sub,ab,col,dd,k0,k1,k2,k3,k5,_,X _ _ ho,.of_isNs (PySem.W.isNs_of_in X hok),PySem.W.nsMap_none_of_in X hok hni,PySem.W.tail_of_in X ht⟩
  ·cases q
 ·cases q
noncomputable abbrev bmV:List Value:=[.type "ValueError",.type "Exception",.type "BaseException",.type "object"]
section
variable{X:Cx}{a b c e:Expr}{f fa fb fc:Dm.FE}{p p2 pos:Pos}{es:List Expr}{fs:List Dm.FE}
theorem HR:OpR X (compareOp .IsNot) (HG true):=by intro pins s σ H x y v u Q I rx ry h;obtain⟨rfl,q⟩:=h;cases ry;refine isnot_none_gen ?_;rw[Ao rx];exact⟨.bl _,H,I,rfl,q⟩
theorem HS:OpD (HG true) Dm.An:=by
 intro H0 H x y dx dy z Q s rx ry e k;unfold Dm.An at e;split at e
 ·cases e;have hy:=pC ry;have:y=V.non:=of_decide_eq_true (hy.trans rfl);refine⟨this,?_⟩;rw[if_pos rfl,pC rx];exact k _ H0 H (aQ.refl s) (.bl _)
 ·cases e
theorem Mk(ha:DE X a fa)(hb:DE X b fb):DT X (.Compare a [.IsNot] [b] pos) (Dm.tV (Dm.e2 Dm.An fa fb)):=p_ HR HS ha hb (fJ _)
end
end Br
namespace Dm
noncomputable def o8(a:Int):List Int->Int
 |[]=>a
 |x::r=>o8 (if x>a then x else a) r
noncomputable def As:List Dat->Option RV
 | [.lst xs]=>(match nZ xs with
  |some (n::ns)=>vI (o8 n ns)
  |_=>none)
 |_=>none
end Dm
namespace Br
open PySem PySem.Spec PyProof.Rows L2
theorem D3(a x:Int)(l:List Int):Dm.o8 a (l++[x])=if x>Dm.o8 a l then x else Dm.o8 a l:=by
 induction l generalizing a with
 |nil=>rfl
 |cons y l ih=>rw[TU,Dm.o8,ih,Dm.o8]
theorem wH(n0:Int)(ns:List Int):∀k,k<=ns.length->(n0::ns).getD (argBest (fun i j=>decide ((n0::ns).getD i 0>(n0::ns).getD j 0)) k) 0=Dm.o8 n0 (ns.take k)
 |0,_=>rfl
 |k+1,h=>by
  have ih:=wH n0 ns k (by omega);have e:argBest (fun i j=>decide ((n0::ns).getD i 0>(n0::ns).getD j 0)) (k+1)=if decide ((n0::ns).getD (k+1) 0>(n0::ns).getD (argBest (fun i j=>decide ((n0::ns).getD i 0>(n0::ns).getD j 0)) k) 0) then k+1 else argBest (fun i j=>decide ((n0::ns).getD i 0>(n0::ns).getD j 0)) k:=rfl
  have ek:(n0::ns).getD (k+1) 0=ns[k]'(by omega):=by rw[Tv,TZ,SI (by omega)];rfl
  rw[e,ih,ek,List.take_succ_eq_append_getElem (by omega),D3];by_cases c:ns[k]'(by omega)>Dm.o8 n0 (ns.take k)
  ·rw[decide_eq_true c,if_pos rfl,if_pos c,ek]
  ·rw[decide_eq_false c,if_neg (by decide),if_neg c,ih]
section
variable{X:Cx}
theorem pD{ns:List Int}{its:List Value}(rv:Vals (ns.map V.int) its):∀(i:Nat) (v:Value),its.toArray[i]?=some v->∃t,v=.int (ns.getD i 0) t:=by
 intro i v hv;have hv':its[i]?=some v:=by simpa using hv
 have hlen:=rv.length;rw[Sx]at hlen;have hi:i<ns.length:=by rw[hlen];exact(Sw.mp hv').1
 have hb:(ns.map V.int)[i]?=some (V.int ns[i]):=by rw[SM,SI hi];rfl
 obtain⟨u,hu,ru⟩:=rv.get hb;rw[hv']at hu;cases hu;obtain⟨t,rfl⟩:=ru;exact⟨t,by rw[Tv,SI hi];rfl⟩
theorem BL(hc:X.calm=true):fm X (.builtin "max") (fun xs H Q=>∃(a:Addr) (n:Int) (ns:List Int),xs=[.ref a]/\Rd H a (.lst ((n::ns).map V.int))/\Q (.int (Dm.o8 n ns)) H):=by
 intro pins s σ H xs us Q I r h;obtain⟨a,n0,ns,rfl,hq,q⟩:=h;obtain⟨u,rfl,rx⟩:=vals1 r;cases rx;obtain⟨z,its,n,rv,e⟩:=hq.ok I.hok;have hl:s.heap.IsList a its.toArray:=⟨_,e,rfl,_,rfl⟩
 have hlen:=rv.length;rw[Sx]at hlen;have hax:a≠s.heap.objs.size:=S0 (SD e);have e1:its.toArray.size=ns.length+1:=by rw[SE,<- hlen];rfl
 refine PySem.call_max_walk (wpAny_pyIter_list hl ⟨s.heap.objs.size,_,_,_,_,_,_,rfl,Walks.list (A:=X.A.in1) (I.ok.hd hc) s.heap.objs.size a hax its.toArray,⟨⟨_,SY _ rfl,rfl,rfl⟩,hl.push _⟩,?_,by rw[e1];exact Nat.succ_pos _,CmpOf.ints_gt (fun i=>(n0::ns).getD i 0) (pD rv),fun v h' tk hp hk=>?_⟩)
 ·intro b hb;simp only[SH,T9,or_false]at hb;rcases hb with rfl | rfl
  ·show s.heap.objs.size<_;exact Uw ..▸Vs _
  ·show b<_;exact Uw ..▸Vq (SD e)
 ·obtain⟨t',rfl⟩:=pD rv _ _ hp;refine⟨.int (Dm.o8 n0 ns),H,I.kept (t':=tk) fun b o eb=>hk b o ?_ (PU _ eb),⟨t',?_⟩,q⟩
  ·intro hm;have:b=s.heap.objs.size:=by simpa using hm
   exact absurd (SD eb) (by rw[this];exact Tq _)
  ·rw[e1,Nat.add_sub_cancel,wH n0 ns _ (Sz _),List.take_length]
theorem j9:∀{H0:Hp} {us:List V} {ds:List Dm.Dat} {ns:List Int},aH H0 us ds->Dm.nZ ds=some ns->us=ns.map V.int
 |_,_,_,_,.nil,h=>by cases h;rfl
 |_,_,_,_,.cons (ds:=ds) (d:=d) r rr,h=>by
  cases d with
  |int i=>
   rw[Dm.nZ]at h;cases hn:Dm.nZ ds with
   |none=>rw[hn]at h;cases h
   |some ms=>rw[hn]at h;cases h;have:=Rep.isInt r;subst this;rw[j9 rr hn];rfl
  |_=>cases h
theorem HU:CallD (fun xs H Q=>∃(a:Addr) (n:Int) (ns:List Int),xs=[.ref a]/\Rd H a (.lst ((n::ns).map V.int))/\Q (.int (Dm.o8 n ns)) H) Dm.As:=by
 intro H0 H vs ds z Q s rs e k;unfold Dm.As at e;split at e
 ·split at e
  ·rename_i n ns hb;cases e;cases rs with
   |cons r rr=>cases rr;obtain⟨a,us,rfl,qa,ra⟩:=b8 s r;have:=j9 ra hb;subst this;exact⟨a,n,ns,rfl,qa,k _ H0 H (aQ.refl s) (.int _)⟩
  ·cases e
 ·cases e
end
section
variable{X:Cx}{e:Expr}{fs:List Dm.FE}{p pos:Pos}
theorem Ml(hc:X.calm=true)(hg:Gl X "max")(hm:X.mg "max" = none)(ha:DA X [e] fs)(he:starEach [e] X.env=[(false,eval e X.env)]:=by rfl)(hpl:(backTo pos (starEach [] X.env)).any (·.1)=false:=by rfl):DE X (.Call (.Name "max" p) [e] [] pos) (Dm.eB Dm.As fs):=BB (BL hc) HU (by rfl) hg hm ha (he:=he) (hpl:=hpl)
end
structure D4(K:gV)(x qual:Str)(st:Stmt)(f:Addr)(fd:FuncData):Prop where
 ex:∃(oc:Value) (od:Option Addr) (dV kV doc pm:Value) (an:Option Addr) (cdv ct:Value) (osl:Array (Option Value)),
  fd=S5 x qual (bx st) (aW st) (ai st) dV kV doc pm an cdv ct/\K.lookup f=some ⟨oc,od,.func fd,osl⟩/\Uv K cdv qual=true
 kp:Tw K (.ref f)=true
section
variable{P:Program}{w:World}{K:gV}{mg:Str->Option Value}{base:Heap}
theorem D4.ok{x qual:Str}{st:Stmt}{f:Addr}{fd:FuncData}{N ps:List Str}{k:Nat}{sp:Sp}(F:D4 K x qual st f fd)(S:aA N ps (ai st))(len:∀vs H Q E,sp vs H Q E->vs.length=ps.length)
  (hbody:∀ (cdv:Value) (A:Around) (outer:List Env) (s:Shared) (H:Hp) (vs:List V) (Q:VK) (E:XK),b5 k (A.deeper (envOfC qual (ai st) s.heap.objs.size f cdv))→sp vs H Q E →
   ∃t,PSs (gT CX0 P w K mg base N qual (ai st) f cdv A outer s H E).nox (aW st) t/\t { nx:=fun _ H'=>Q .non H',rt:=Q } (start N vs) H):aV P w K mg base CX0 (k+1) f fd ps sp:=by
 obtain⟨oc,od,dV,kV,doc,pm,an,cdv,ct,osl,rfl,lk,hcd⟩:=F.ex;refine z5 lk hcd S len fun A outer s H vs Q E hr hsp=>?_;obtain⟨t,h,q⟩:=hbody cdv A outer s H vs Q E hr hsp;exact⟨t,h.nox,q⟩
theorem HV{x qual:Str}{st:Stmt}{f:Addr}{oc:Value}{od an:Option Addr}{osl:Array (Option Value)}{dV kV doc pm cdv ct:Value}(l:K.lookup f=some ⟨oc,od,.func (S5 x qual (bx st) (aW st) (ai st) dV kV doc pm an cdv ct),osl⟩)
  (c:Uv K cdv qual=true) (k:Tw K (.ref f)=true):D4 K x qual st f (S5 x qual (bx st) (aW st) (ai st) dV kV doc pm an cdv ct):=⟨⟨oc,od,dV,kV,doc,pm,an,cdv,ct,osl,rfl,l,c⟩,k⟩
end
theorem HW{g:List Dm.Dat->Option Dm.RV}{c:Int}{vs:List V}{H:Hp}{Q:VK}{E:XK}(h:spD (fun ds=>g (ds++[.int c])) vs H Q E):spD g (vs++[.int c]) H Q E:=by obtain⟨H0,ds,z,s,r,e,k⟩:=h;exact⟨H0,ds++[.int c],z,s,r.append (.cons (.int _) .nil),e,k⟩
section
variable{σ:L2.St}{H:Hp}{Q:VK}
theorem HX{g:List Dm.Dat->Option Dm.RV}{c:Int}{fs:List Dm.FE}{E:XK}(h:tD (Dm.eF (fun ds=>g (ds++[.int c])) fs) σ H Q):tF (spD g) [.int c] E (tDA fs) σ H Q:=by obtain⟨H0,ρ,xs,ρ',st,e,k⟩:=C2 (E:=E) h;refine⟨H0,ρ,xs,ρ',st,e,fun vs H0' H' t r=>?_⟩;have:=k vs H0' H' t r;dsimp only at this;rw[Tz]at this;exact HW this
end
section
variable{X:Cx}{e:Expr}{es:List Expr}{fs:List Dm.FE}{p pos:Pos}
theorem Au{k:Nat}{F:Addr}{fd:FuncData}{ps:List Str}{g:List Dm.Dat->Option Dm.RV}{x:Str}{c:Int}{tk:Tok}(G:aV X.prog X.w X.K X.mg X.base CX0 k F fd ps (spD g))(hr:b5 k X.A)(hg:Gl X x)(hm:X.mg x=some (.ref F))(hk:Tw X.K (.ref F)=true)(hb:Binds X.K fd ps [.int c tk])
  (ha:DA X (e::es) fs) (hdb:(x == ("__debug__" : Str))=false:=by decide) (he:starEach (e::es) X.env=(false,eval e X.env)::starEach es X.env:=by rfl) (hpl:(backTo pos (starEach es X.env)).any (·.1)=false:=by rfl) :
  DE X (.Call (.Name x p) (e::es) [] pos) (Dm.eF (fun ds=>g (ds++[.int c])) fs):=PE.weak (lU G hr hg hm hk hb (dvs:=[.int c]) (.cons (show RelV (.int c) (.int c tk) from ⟨tk,rfl⟩) .nil) (vY (X:=X)) ha hdb he hpl) fun _ _ _=>HX
end
end Br
namespace Dm
noncomputable abbrev FN:=Env->List (List Dat)->Option (Env×List (List Dat))
noncomputable def nNx:FN:=fun ρ r=>some (ρ,r)
noncomputable def BN(s u:FN):FN:=fun ρ r=>match s ρ r with
 |none=>none
 |some (ρ1,r1)=>u ρ1 r1
noncomputable def nIf(t:FT)(a b:FN):FN:=fun ρ r=>match t ρ with
 |none=>none
 |some (true,ρ1)=>a ρ1 r
 |some (false,ρ1)=>b ρ1 r
noncomputable def y9(i e:FE):FN:=fun ρ r=>match i ρ with
 | some (.val (.int k),ρ1)=>(match ixN r.length k with
  |none=>none
  |some m=>match r[m]? with
   |none=>none
   |some row=>match e ρ1 with
    |none=>none
    |some (x,ρ2)=>match tk ρ2 x with
     |none=>none
     |some (d,ρ3)=>if row.length<SZ then some (ρ3,r.set m (row++[d])) else none)
 |_=>none
noncomputable def oq(bd:FB)(body:FN):List Dat->FN
 |[],ρ,r=>some (ρ,r)
 |d::q,ρ,r=>match bd d ρ with
  |none=>none
  |some ρ1=>match body ρ1 r with
   |none=>none
   |some (ρ2,r2)=>oq bd body q ρ2 r2
noncomputable def y_(it:FI)(bd:FB)(body:FN):FN:=fun ρ r=>match it ρ with
 |none=>none
 |some (ds,ρ1)=>oq bd body ds ρ1 r
noncomputable def nMk(bd:FB):List Dat->Env->Option Env
 |[],ρ=>some ρ
 |d::r,ρ=>match bd d ρ with
  |none=>none
  |some ρ1=>nMk bd r ρ1
noncomputable def qp(j:Nat)(it:FI)(own:Nat)(bd:FB)(loop:FN):FS:=fun ρ=>if j=0 then none else match it ρ with
 |none=>none
 | some (ds,ρ1)=>if ds.length≤SZ then (match nMk bd ds (ρ1++Dp own .un) with
  |none=>none
  |some ρ2=>match loop ((ρ2.take ρ1.length).set j .un) (Dp ds.length []) with
   |none=>none
   |some (ρ3,r)=>some (.nx (ρ3.set j (.ow (.lst (r.map .lst)))))) else none
noncomputable def nA:List Dat->Option RV
 |[.dct ks _]=>if ks.length<=63 then some (.new (.lst ((iB (fun a b=>decide (a<b)) ks).map .int))) else none
 |_=>none
noncomputable def wI:List Dat->Option RV
 |[.dct ks vs]=>some (.new (.dct ks vs))
 |_=>none
noncomputable def g6:List Int->List Dat->Int->List Int
 |k::ks,_::vs,i=>if k=i then g6 ks vs i else k::g6 ks vs i
 |_,_,_=>[]
noncomputable def g7:List Int->List Dat->Int->List Dat
 |k::ks,v::vs,i=>if k=i then g7 ks vs i else v::g7 ks vs i
 |_,_,_=>[]
noncomputable def qq(i:Nat)(e:FE):FE:=fun ρ=>match ρ[i]? with
 | some (.ow (.dct _ _))=>(match e ρ with
  | some (.val (.int k),ρ1)=>(match ρ1[i]? with
   | some (.ow (.dct ks vs))=>(match cL ks vs k with
    |some d=>some (.val d,ρ1.set i (.ow (.dct (g6 ks vs k) (g7 ks vs k))))
    |none=>none)
   |_=>none)
  |_=>none)
 |_=>none
mutual
noncomputable def cR:Dat->Bool
 |.tup xs=>i7 xs
 |.lst xs=>i7 xs
 |.dct _ _=>false
 |.exc _=>false
 |_=>true
noncomputable def i7:List Dat->Bool
 |[]=>true
 |x::r=>cR x&&i7 r
end
noncomputable def tkd(ρ:Env):Val->Option (Dat×Env)
 |.val d=>some (d,ρ)
 |.new d=>some (d,ρ)
 |.slot i=>match ρ[i]? with
  |some (.ow (.dct ks vs))=>some (.dct ks vs,ρ)
  |some (.ow d)=>some (d,ρ.set i (.sh d))
  |some (.sh d)=>some (d,ρ)
  |_=>none
noncomputable def za(ρ:Env):List Val->Option (List Dat×Env)
 |[]=>some ([],ρ)
 |x::r=>match tkd ρ x with
  |none=>none
  |some (d,ρ1)=>match za ρ1 r with
   |none=>none
   |some (ds,ρ2)=>some (d::ds,ρ2)
noncomputable def eFd(f:List Dat->Option RV)(as:List FE):FE:=fun ρ=>match eAs as ρ with
 |none=>none
 |some (xs,ρ1)=>match za ρ1 xs with
  |none=>none
  |some (ds,ρ2)=>match f ds with
   |none=>none
   |some v=>if cR v.dat then some (v.cj,ρ2) else none
noncomputable def mq:Dat->Dat->Option RV
 |.int i,.int j=>if i.natAbs.log2<1000000/\j.natAbs.log2<1000000 then vI (i*j) else none
 |_,_=>none
noncomputable def nB:List Val->Option (List Dat)
 |[]=>some []
 |.val d::r=>(nB r).map fun ds=>d::ds
 |_=>none
noncomputable def eFn(f:List Dat->Option (RV×Dat))(e0:FE)(as:List FE):FE:=fun ρ=>match eAs (e0::as) ρ with
 | some (.new d::xs,ρ1)=>(match nB xs with
  |none=>none
  |some ds=>match f (d::ds) with
   |none=>none
   |some (v,_)=>some (v.cj,ρ1))
 |_=>none
end Dm
namespace Br
open PySem PySem.Spec PyProof.Rows L2
noncomputable def aU(H0 H:Hp):List Addr->List (List Dm.Dat)->Prop
 |[],[]=>True
 |p::ps,r::rs=>(∃xs,H p=some (.lst xs)/\aH H0 xs r)/\aU H0 H ps rs
 |_,_=>False
theorem aU.len{H0 H:Hp}:∀{ps:List Addr} {rs:List (List Dm.Dat)},aU H0 H ps rs->ps.length=rs.length
 |[],[],_=>rfl
 |_::_,_::_,h=>by simp[aU.len h.2]
theorem aU.get{H0 H:Hp}:∀{ps:List Addr} {rs:List (List Dm.Dat)} {i:Nat} {r:List Dm.Dat},aU H0 H ps rs->rs[i]?=some r->∃p xs,ps[i]?=some p/\H p=some (.lst xs)/\aH H0 xs r
 |[],[],_,_,_,e=>by simp at e
 |p::_,_::_,0,_,h,e=>by simp at e;subst e;obtain⟨xs,h1,h2⟩:=h.1;exact⟨p,xs,rfl,h1,h2⟩
 |_::_,_::_,i+1,_,h,e=>by obtain⟨p,xs,h1,h2⟩:=aU.get (i:=i) h.2 (by simpa using e);exact⟨p,xs,by simpa using h1,h2⟩
theorem aU.mono{H0 H H0' H':Hp}:∀{ps:List Addr} {rs:List (List Dm.Dat)},aU H0 H ps rs->av H0 H0'->(∀p∈ps,H' p=H p)->aU H0' H' ps rs
 |[],[],_,_,_=>trivial
 |p::ps,r::rs,h,s,k=>by obtain⟨⟨xs,h1,h2⟩,h3⟩:=h;exact⟨⟨xs,by rw[k p Sy];exact h1,h2.mono s⟩,aU.mono h3 s fun q hq=>k q (SA _ hq)⟩
theorem aU.set{H0 H:Hp}{p:Addr}{xs:List V}{r:List Dm.Dat}(w:aH H0 xs r):∀{ps:List Addr} {rs:List (List Dm.Dat)} {i:Nat},aU H0 H ps rs->ps.Nodup->ps[i]?=some p->aU H0 (upd H p (.lst xs)) ps (rs.set i r)
 |[],[],_,_,_,e=>by simp at e
 |q::ps,_::rs,0,h,n,e=>by simp at e;subst e;refine⟨⟨xs,au,w⟩,h.2.mono (av.refl _) fun y hy=>aj fun z=>?_⟩;subst z;exact(S1.mp n).1 hy
 |q::ps,_::rs,i+1,h,n,e=>by
  have e':ps[i]?=some p:=by simpa using e
  obtain⟨⟨ys,h1,h2⟩,h3⟩:=h;obtain⟨n1,n2⟩:=S1.mp n;refine⟨⟨ys,?_,h2⟩,aU.set w h3 n2 e'⟩;rw[aj fun z=>?_]
  ·exact h1
  ·subst z;exact n1 (Ue e')
theorem aU.some{H0 H:Hp}:∀{ps:List Addr} {rs:List (List Dm.Dat)},aU H0 H ps rs->∀p∈ps,∃o,H p=some o
 |[],[],_,_,h=>by cases h
 |q::ps,_::rs,h,p,hp=>by
  rcases SH.mp hp with rfl | hp
  ·obtain⟨xs,h1,_⟩:=h.1;exact⟨_,h1⟩
  ·exact aU.some h.2 p hp
structure NS(j:Nat)(σs:L2.St)(ρs:Dm.Env)(H0s Hs:Hp)(σ:L2.St)(ρ:Dm.Env)(H0 H:Hp)(rows:List (List Dm.Dat)):Prop where
 st:az H0 H σ ρ
 stp:Stp (ao σs ρs) H0s Hs H0 H
 own:∀a,ao σ ρ a->ao σs ρs a\/Hs a=none
 fx:σ[0]?=σs[0]?
 ex:∃(L:Addr) (ps:List Addr),σ[j]?=some (some (.ref L))/\Hs L=none/\H0 L=none/\¬ao σ ρ L/\H L=some (.lst (ps.map V.ref))/\(L::ps).Nodup/\(∀p∈ps,Hs p=none/\H0 p=none/\¬ao σ ρ p)/\aU H0 H ps rows
theorem NS.est{j:Nat}{σs:L2.St}{ρs:Dm.Env}{H0s Hs:Hp}{σ:L2.St}{ρ ρ':Dm.Env}{H0 H H0' H':Hp}{rows:List (List Dm.Dat)}(n:NS j σs ρs H0s Hs σ ρ H0 H rows)(t:ESt σ ρ H0 H ρ' H0' H'):NS j σs ρs H0s Hs σ ρ' H0' H' rows:=by
 obtain⟨L,ps,h1,h2,h3,h4,h5,h6,h7,h8⟩:=n.ex;obtain⟨k1,k2,k3⟩:=t.eS h5 h3 h4;refine⟨t.st,n.stp.trans t.stp n.own,fun a z=>n.own a (t.own a z),n.fx,L,ps,h1,h2,k2,k3,k1,h6,fun p hp=>?_,h8.mono t.stp.s0 fun p hp=>?_⟩
 ·obtain⟨q1,q2,q3⟩:=h7 p hp;obtain⟨o,q4⟩:=h8.some p hp;obtain⟨z1,z2,z3⟩:=t.eS q4 q2 q3;exact⟨q1,z2,z3⟩
 ·obtain⟨q1,q2,q3⟩:=h7 p hp;obtain⟨o,q4⟩:=h8.some p hp;obtain⟨z1,z2,z3⟩:=t.eS q4 q2 q3;rw[z1,q4]
theorem NS.bind{j:Nat}{σs:L2.St}{ρs:Dm.Env}{H0s Hs:Hp}{σ σ':L2.St}{ρ ρ':Dm.Env}{H0 H:Hp}{rows:List (List Dm.Dat)}(n:NS j σs ρs H0s Hs σ ρ H0 H rows)(st:az H0 H σ' ρ')(o:∀a,ao σ' ρ' a->ao σ ρ a)(hj:σ'[j]?=σ[j]?)(h0:σ'[0]?=σ[0]?):NS j σs ρs H0s Hs σ' ρ' H0 H rows:=by obtain⟨L,ps,h1,h2,h3,h4,h5,h6,h7,h8⟩:=n.ex;exact⟨st,n.stp,fun a z=>n.own a (o a z),h0.trans n.fx,L,ps,hj.trans h1,h2,h3,fun z=>h4 (o L z),h5,h6,fun p hp=>⟨(h7 p hp).1,(h7 p hp).2.1,fun z=>(h7 p hp).2.2 (o p z)⟩,h8⟩
noncomputable def sV(H0 H:Hp)(ps:List Addr):Hp:=fun b=>if b∈ps then H b else H0 b
theorem pF{H0 H:Hp}{ps:List Addr}{b:Addr}(h:b∈ps):sV H0 H ps b=H b:=by unfold sV;rw[if_pos h]
theorem fy{H0 H:Hp}{ps:List Addr}{b:Addr}(h:b∉ps):sV H0 H ps b=H0 b:=by unfold sV;rw[if_neg h]
theorem t7{H0 H:Hp}{ps:List Addr}(s:av H0 H):av H0 (sV H0 H ps):=fun b o e=>by
 by_cases q:b∈ps
 ·rw[pF q];exact s _ _ e
 ·rw[fy q];exact e
theorem wJ{H0 H:Hp}{ps:List Addr}(s:av H0 H):av (sV H0 H ps) H:=fun b o e=>by
 by_cases q:b∈ps
 ·rw[pF q]at e;exact e
 ·rw[fy q]at e;exact s _ _ e
theorem aU.reps{H0 H H1:Hp}:∀{ps:List Addr} {rs:List (List Dm.Dat)},aU H0 H ps rs->av H0 H1->(∀p∈ps,H1 p=H p)->aH H1 (ps.map V.ref) (rs.map Dm.Dat.lst)
 |[],[],_,_,_=>.nil
 |p::ps,r::rs,h,s,k=>by obtain⟨⟨xs,h1,h2⟩,h3⟩:=h;exact .cons (.lst (.inl ((k p Sy).trans h1)) (h2.mono s)) (aU.reps h3 s fun q hq=>k q (SA _ hq))
theorem NS.done{j:Nat}{σs:L2.St}{ρs:Dm.Env}{H0s Hs:Hp}{σ:L2.St}{ρ:Dm.Env}{H0 H:Hp}{rows:List (List Dm.Dat)}(n:NS j σs ρs H0s Hs σ ρ H0 H rows):∃H0',SSt σs ρs H0s Hs σ (ρ.set j (.ow (.lst (rows.map Dm.Dat.lst)))) H0' H:=by
 obtain⟨L,ps,h1,h2,h3,h4,h5,h6,h7,h8⟩:=n.ex;obtain⟨n1,n2⟩:=S1.mp h6;have ss:=t7 (ps:=ps) n.st.same;have st:az (sV H0 H ps) H σ ρ:={
  same:=wJ n.st.same
  len:=n.st.len
  sh:=fun i d h=>by obtain⟨v,z,r⟩:=n.st.sh i d h;exact⟨v,z,r.mono ss⟩
  ow:=fun i d h=>by obtain⟨b,z,q,w⟩:=n.st.ow i d h;have nb:b∉ps:=fun y=>(h7 b y).2.2 ⟨i,d,h,z⟩;exact⟨b,z,by rw[fy nb];exact q,w.mono ss rfl⟩
  dis:=n.st.dis }
 refine⟨sV H0 H ps,st.jD h1 h4 (by rw[fy n1];exact h3) ⟨_,h5,h8.reps ss fun p hp=>pF hp⟩,⟨n.stp.s0.trans ss,n.stp.s1,fun a o e=>?_,n.stp.s3⟩,fun a z=>?_,n.fx⟩
 ·by_cases q:a∈ps
  ·exact .inl (h7 a q).1
  ·rw[fy q]at e;exact n.stp.s2 a o e
 ·obtain⟨i,d,z1,z2⟩:=z;by_cases q:j=i
  ·subst q;rw[h1]at z2;cases z2;exact .inr h2
  ·rw[eg q]at z1;exact n.own a ⟨i,d,z1,z2⟩
noncomputable def tDN(j:Nat)(f:Dm.FN):TS:=fun D σ H=>∃σs ρs H0s Hs H0 ρ rows ρ' rows',NS j σs ρs H0s Hs σ ρ H0 H rows/\f ρ rows=some (ρ',rows')/\∀σ' H0' H',NS j σs ρs H0s Hs σ' ρ' H0' H' rows'->av H0 H0'->D.nx σ' H'
section
variable{D:Ends}{σ:L2.St}{H:Hp}{j:Nat}
theorem Pw(h:tDN j Dm.nNx D σ H):Cq D σ H:=by obtain⟨σs,ρs,H0s,Hs,H0,ρ,rows,ρ',rows',n,e,k⟩:=h;cases e;exact k σ H0 H n (av.refl _)
theorem Mm{s u:Dm.FN}(h:tDN j (Dm.BN s u) D σ H):sH (tDN j s) (tDN j u) D σ H:=by
 obtain⟨σs,ρs,H0s,Hs,H0,ρ,rows,ρ',rows',n,e,k⟩:=h;unfold Dm.BN at e;split at e
 ·cases e
 rename_i ρ1 r1 e1;exact⟨σs,ρs,H0s,Hs,H0,ρ,rows,ρ1,r1,n,e1,fun σ' H0' H' n' s1=>⟨σs,ρs,H0s,Hs,H0',ρ1,r1,ρ',rows',n',e,fun σ2 H2 Hc n2 s2=>k σ2 H2 Hc n2 (s1.trans s2)⟩⟩
theorem Px{t:Dm.FT}{a b:Dm.FN}(h:tDN j (Dm.nIf t a b) D σ H):K5 (tDT t) (tDN j a) (tDN j b) D σ H:=by
 obtain⟨σs,ρs,H0s,Hs,H0,ρ,rows,ρ',rows',n,e,k⟩:=h;unfold Dm.nIf at e;split at e
 ·cases e
 ·rename_i ρ1 e1;refine⟨H0,ρ,true,ρ1,n.st,e1,fun H1 Hb t1=>?_⟩;dsimp only;rw[if_pos rfl];exact⟨σs,ρs,H0s,Hs,H1,ρ1,rows,ρ',rows',n.est t1,e,fun σ2 H2 Hc n2 s2=>k σ2 H2 Hc n2 (t1.stp.s0.trans s2)⟩
 ·rename_i ρ1 e1;refine⟨H0,ρ,false,ρ1,n.st,e1,fun H1 Hb t1=>?_⟩;dsimp only;rw[if_neg Tf];exact⟨σs,ρs,H0s,Hs,H1,ρ1,rows,ρ',rows',n.est t1,e,fun σ2 H2 Hc n2 s2=>k σ2 H2 Hc n2 (t1.stp.s0.trans s2)⟩
theorem Mn{fi:Dm.FI}{bd:Dm.FB}{g:TG}{body:Dm.FN}{is:List Nat}(hb:BD is g bd)(hj:j∉is)(h:tDN j (Dm.y_ fi bd body) D σ H):CB (tDI fi) g (tDN j body) D σ H:=by
 obtain⟨σs,ρs,H0s,Hs,H0,ρ,rows,ρ',rows',n,e,k⟩:=h;unfold Dm.y_ at e;split at e
 ·cases e
 rename_i ys ρ1 e1;refine⟨H0,ρ,ys,ρ1,n.st,e1,fun J H00 Hb t1 jw=>?_⟩;refine ⟨fun i m σ H=>∃ H0 ρ rows,NS j σs ρs H0s Hs σ ρ H0 H rows∧av H00 H0∧m=ys.length-i∧i≤ys.length∧Dm.oq bd body (ys.drop i) ρ rows=some (ρ',rows'),
  ⟨ys.length,H00,ρ1,rows,n.est t1,av.refl _,by simp,Ti _,by simpa using e⟩,?_⟩
 rintro i m σ H ⟨H0,ρ,rows,n,s00,rfl,hi,e⟩;obtain⟨js,jg⟩:=jw H0 H s00 n.st.same;by_cases hlt:i<ys.length
 ·have hd:ys[i]?=some ys[i]:=by simp[hlt]
  obtain⟨g1,g2⟩:=jg i ys[i] hd;rw[Ud hlt]at e;unfold Dm.oq at e;refine .inr ⟨g1,fun σ' H'=>∃H0 ρ rows,NS j σs ρs H0s Hs σ' ρ H0 H' rows/\av H00 H0/\Dm.oq bd body (ys.drop (i+1)) ρ rows=some (ρ',rows'),?_,fun x H' y=>?_⟩
  ·rintro σ' H' ⟨H0',ρ2,r2,h1,h2,h3⟩;exact⟨ys.length-(i+1),by omega,H0',ρ2,r2,h1,h2,rfl,hlt,h3⟩
  ·obtain⟨H0',gr,rx⟩:=g2 x H' y;split at e
   ·cases e
   ·rename_i ρ2 e2;have t2:=ESt.grow n.st gr;have n2:=n.est t2;refine hb H0' H' σ ρ ρ2 x ys[i] _ t2.st rx e2 fun σ2 st2 o2 k2 _ f2=>?_;have n3:=n2.bind st2 o2 (k2 j hj) f2;have s3:av H00 H0':=s00.trans gr.s0;split at e
    ·cases e
    ·rename_i ρ3 r3 e3;refine⟨σs,ρs,H0s,Hs,H0',ρ2,rows,ρ3,r3,n3,e3,fun σ4 H4 Hd n4 s4=>⟨H4,ρ3,r3,n4,s3.trans s4,e⟩⟩
 ·have e':i=ys.length:=by omega
  subst e';rw[UJ]at e;cases e;exact .inl ⟨js _ (Sz _),k σ H0 H n (t1.stp.s0.trans s00)⟩
theorem Mp{K:gV}{fi f:Dm.FE}(h:tDN j (Dm.y9 fi f) D σ H):tw (tBM K "list" pA (tOp (Lm K) (pL j) (tD fi)) (tDA [f])) D σ H:=by
 obtain⟨σs,ρs,H0s,Hs,H0,ρ,rows,ρ',rows',n,e,k⟩:=h;unfold Dm.y9 at e;split at e
 case h_2=>cases e
 rename_i z ρ1 e1;split at e
 ·cases e
 rename_i m em;split at e
 ·cases e
 rename_i row er;split at e
 ·cases e
 rename_i x ρ2 e2;split at e
 ·cases e
 rename_i d ρ3 e3;split at e
 case isFalse=>cases e
 rename_i hz;cases e;obtain⟨L,ps0,h1,_⟩:=n.ex;refine⟨_,h1,H0,ρ,_,ρ1,n.st,e1,fun y H1 Hb t1 r1=>?_⟩;have n1:=n.est t1;obtain⟨L',ps,q1,q2,q3,q4,q5,q6,q7,q8⟩:=n1.ex;rw[h1]at q1;cases q1;obtain⟨q,xs,hq,hqx,hqr⟩:=q8.get er;have hqm:q∈ps:=Ue hq;refine⟨L,ps.map V.ref,z,V.ref q,rfl,Rep.isInt r1,.inl (.inl q5),?_,.inl ⟨rfl,xs,.inl (.inl hqx)⟩,?_⟩
 ·show (L2.ixN (ps.map V.ref).length z).bind (fun j=>(ps.map V.ref)[j]?)=_;rw[Sx,q8.len,<- LD,em];show (ps.map V.ref)[m]?=_;rw[SM,hq];rfl
 refine⟨H1,ρ1,[x],ρ2,n1.st,by unfold Dm.eAs;rw[e2];rfl,fun vs H2 Hc t2 r2=>?_⟩;cases r2 with
 |cons r rr=>
  cases rr;obtain⟨H3,t3,b3,r3,_,_⟩:=take1 t2 (av.refl _) r e3;have n3:=n1.est t3;obtain⟨L',ps',w1,w2,w3,w4,w5,w6,w7,w8⟩:=n3.ex;rw[h1]at w1;cases w1;obtain⟨k1,_,_⟩:=t3.eS q5 q3 q4;rw[k1]at w5;have ep:ps'=ps:=by
   have:ps.map V.ref=ps'.map V.ref:=by injection w5 with z;injection z
   exact((List.map_inj_right fun a b h=>by injection h).mp this).symm
  subst ep;obtain⟨q',ys,hq',hqy,Py⟩:=w8.get er;rw[hq]at hq';cases hq';have nL:L≠q:=fun z=>(S1.mp w6).1 (z▸hqm);refine⟨q,ys,_,rfl,rfl,hqy,by rw[Py.length];exact SN hz (by decide),?_⟩;obtain⟨z1,z2,z3⟩:=w7 q hqm;refine k σ H3 _ ⟨n3.st.aside z2 z3,n3.stp.aside z1,n3.own,n3.fx,L,ps',h1,w2,w3,w4,by rw[aj nL];exact k1,w6,w7,aU.set (Py.append (.cons r3 .nil)) w8 (S1.mp w6).2 hq⟩ (t1.stp.s0.trans t3.stp.s0)
end
theorem D5{σ:L2.St}{own:Nat}{bd:Dm.FB}{g:TG}{is:List Nat}{Q:VK}{H00 Hb:Hp}{ρ1 ρ2:Dm.Env}{ds:List Dm.Dat}{J:It}(hb:BD is g bd)(hl:∀i∈is,σ.length<=i)
  (st1:az H00 Hb σ ρ1) (jw:JW J H00 ds) (hsz:ds.length<=Dm.SZ) (e2:Dm.nMk bd ds (ρ1++Dp own .un)=some ρ2) (D:Addr) (hD:Hb D=none)
  (k:∀ H0' H' (ps:List Addr),az H0' H' σ (ρ2.take ρ1.length)→Stp (ao σ ρ1) H00 Hb H0' H'→(∀ a,ao σ (ρ2.take ρ1.length) a→ao σ ρ1 a)→H' D=some (.lst (ps.map V.ref))→H0' D=none→(D::ps).Nodup→(∀ p∈ps,Hb p=none∧H0' p=none) →
   aU H0' H' ps (Dp ds.length [])->Q (.ref D) H') :
  ∃W:Nat->Nat->L2.St->Hp->Prop,(∃m,W 0 m (σ++Dp own none) (upd Hb D (.lst [])))/\∀i m σ' H',W i m σ' H' ->
  (J.stop i H'∧Q (.ref D) H')∨(J.go i H'∧∀ x H2,J.yld i H' x H2→g x σ' H2 fun σ2 H3=>G6 σ2 H3 fun b H4=>if b=true
   then CI uG σ2 H4 fun y H5=>∃acc,H5 D=some (.lst acc)/\acc.length<sizeLine/\∃m',m'<m/\W (i+1) m' σ2 (upd H5 D (.lst (acc++[y])))
   else ∃m',m'<m/\W (i+1) m' σ2 H4):=by
 have noD:¬ao σ ρ1 D:=st1.bX hD;refine ⟨fun i m σ' H'=>∃ (H0c:Hp) (ρc:Dm.Env) (ps:List Addr),az H0c H' σ' ρc∧av H00 H0c∧m=ds.length-i∧i≤ds.length∧Dm.nMk bd (ds.drop i) ρc=some ρ2 ∧
  H' D=some (.lst (ps.map V.ref))/\ps.length=i/\H0c D=none/\(D::ps).Nodup/\(∀p∈ps,Hb p=none/\H0c p=none)/\aU H0c H' ps (Dp i [])/\Stp (ao σ ρ1) H00 Hb H0c H'/\(∀j,j<σ.length->σ'[j]?=σ[j]?)/\(∀a,ao σ' ρc a->ao σ ρ1 a),
  ⟨ds.length,H00,ρ1++Dp own .un,[],(st1.aside (st1.same.free hD) noD).ext own,av.refl _,by simp,Ti _,by simpa using e2,au,rfl,st1.same.free hD,by simp,by simp,trivial,(Stp.refl _ _ _).aside hD,
   fun j hj=>SG hj,fun a z=>nt st1 z⟩,?_⟩
 rintro i m σ' H' ⟨H0c,ρc,ps,sc,s00,rfl,hi,ec,hDl,hpl,n0,nd,hps,hro,sp,hσ,ho⟩;have nOc:¬ao σ' ρc D:=fun z=>noD (ho D z);have nOp:∀p∈ps,¬ao σ' ρc p:=fun p hp z=>st1.bX (hps p hp).1 (ho p z);obtain⟨js,jg⟩:=jw H0c H' s00 sc.same;by_cases hlt:i<ds.length
 ·have hd:ds[i]?=some ds[i]:=by simp[hlt]
  obtain⟨g1,g2⟩:=jg i ds[i] hd;rw[Ud hlt]at ec;unfold Dm.nMk at ec;refine .inr ⟨g1,fun y H2 yy=>?_⟩;obtain⟨H0',gr,rx⟩:=g2 y H2 yy;split at ec
  ·cases ec
  rename_i ρ3 e3;have t2:=ESt.grow sc gr;obtain⟨hD2,n02,no2⟩:=t2.eS hDl n0 nOc;refine hb H0' H2 σ' ρc ρ3 y ds[i] _ t2.st rx e3 fun σ3 st3 o3 k3 d3 _=>?_;unfold G6;dsimp only;rw[if_pos rfl];refine⟨Ti _,fun p hp=>?_⟩;have hpD:p≠D:=fun z=>by rw[z,hD2]at hp;cases hp
  have noP:¬ao σ3 ρ3 p:=st3.bX hp;have Pz:∀q∈ps,q≠p:=fun q hq z=>by obtain⟨o,h1⟩:=hro.some q hq;have:=gr.s1 q o h1;rw[z,hp]at this;cases this
  refine⟨ps.map V.ref,by rw[aj (Ne.symm hpD)];exact hD2,?_,ds.length-(i+1),by omega,H0',ρ3,ps++[p],?_,s00.trans gr.s0,rfl,hlt,ec,?_,by simp[hpl],n02,?_,?_,?_,?_,?_,?_⟩
  ·rw[Sx,hpl];unfold Dm.SZ at hsz;exact SN (SN hlt hsz) (by decide)
  ·have no3:¬ao σ3 ρ3 D:=fun z=>no2 (o3 D z);exact(st3.aside (st3.same.free hp) noP).aside n02 no3
  ·rw[au,Tg];rfl
  ·rw[<- TU];refine Uh.mpr ⟨nd,by simp,fun a ha b hb=>?_⟩;rw[SV.mp hb];rcases SH.mp ha with rfl | ha
   ·exact Ne.symm hpD
   ·exact Pz a ha
  ·intro q hq;rcases Te.mp hq with hq | hq
   ·refine⟨(hps q hq).1,?_⟩;obtain⟨o,h1⟩:=hro.some q hq;exact(t2.eS h1 (hps q hq).2 (nOp q hq)).2.1
   ·rw[SV.mp hq];exact⟨(sp.trans t2.stp fun a z=>.inl (ho a z)).gone hp,st3.same.free hp⟩
  ·have base:aU H0' (upd (upd H2 p (.lst [])) D (.lst (ps.map V.ref++[V.ref p]))) ps (Dp i []):=hro.mono gr.s0 fun q hq=>by
    have hqD:q≠D:=fun z=>(S1.mp nd).1 (z▸hq);obtain⟨o,h1⟩:=hro.some q hq;rw[aj hqD,aj (Pz q hq),gr.s1 q o h1,h1]
   have app:∀{H0 H:Hp} {ps:List Addr} {rs:List (List Dm.Dat)} {p:Addr},aU H0 H ps rs->H p=some (.lst [])->aU H0 H (ps++[p]) (rs++[[]]):=by
    intro H0 H ps rs p h1 h2
    induction ps generalizing rs with
    |nil=>cases rs with
     |nil=>exact⟨⟨[],h2,.nil⟩,trivial⟩
     |cons _ _=>exact h1.elim
    |cons q ps ih=>cases rs with
     |nil=>exact h1.elim
     |cons r rs=>exact⟨h1.1,ih h1.2⟩
   have:=app base (p:=p) (by rw[aj hpD,au]);rw[List.replicate_succ'];exact this
  ·exact((sp.trans t2.stp fun a z=>.inl (ho a z)).aside ((sp.trans t2.stp fun a z=>.inl (ho a z)).gone hp)).aside hD
  ·exact fun j hj=>(k3 j fun z=>UI.mpr (hl j z) hj).trans (hσ j hj)
  ·exact fun a z=>ho a (o3 a z)
 ·have e':i=ds.length:=by omega
  subst e';rw[UJ]at ec;cases ec;refine .inl ⟨js _ (Sz _),k H0c H' ps ?_ sp ?_ hDl n0 nd hps hro⟩
  all_goals
   have hlen:σ.length<=ρ2.length:=by rw[<- sc.len];refine UI.mp fun z=>?_;have q:=hσ σ'.length z;rw[Tc (Sz _),SI z]at q;cases q
   have tk:∀{j:Nat} {c:Dm.Cell},(ρ2.take ρ1.length)[j]?=some c->j<σ.length/\ρ2[j]?=some c:=fun {j c} h=>by
    have hj:j<ρ1.length:=by have:=(Sw.mp h).1;rw[Ul]at this;omega
    rw[Uy hj]at h;exact⟨by rw[st1.len];exact hj,h⟩
  ·refine⟨sc.same,?_,fun j d h=>?_,fun j d h=>?_,fun j j' d d' a h1 h2 h3 h4=>?_⟩
   ·rw[Ul,<- st1.len];omega
   ·obtain⟨hj,h⟩:=tk h;obtain⟨v,q,r⟩:=sc.sh j d h;exact⟨v,(hσ j hj).symm.trans q,r⟩
   ·obtain⟨hj,h⟩:=tk h;obtain⟨v,q,r⟩:=sc.ow j d h;exact⟨v,(hσ j hj).symm.trans q,r⟩
   ·obtain⟨hj,h1⟩:=tk h1;obtain⟨hj',h2⟩:=tk h2;exact sc.dis j j' d d' a h1 h2 ((hσ j hj).trans h3) ((hσ j' hj').trans h4)
  ·intro a ⟨j,d,h1,h2⟩;obtain⟨hj,h1⟩:=tk h1;exact ho a ⟨j,d,h1,(hσ j hj).trans h2⟩
theorem t8{j own:Nat}{fi:Dm.FI}{bd:Dm.FB}{loop:Dm.FN}{ρ:Dm.Env}{z:Dm.Out}(q:Dm.qp j fi own bd loop ρ=some z):∃ds ρ1 ρ2 ρ3 r3,j≠0/\fi ρ=some (ds,ρ1)/\ds.length<=Dm.SZ/\Dm.nMk bd ds (ρ1++Dp own .un)=some ρ2 /\
  loop ((ρ2.take ρ1.length).set j .un) (Dp ds.length [])=some (ρ3,r3)/\z=.nx (ρ3.set j (.ow (.lst (r3.map .lst)))):=by
 unfold Dm.qp at q;split at q
 ·cases q
 rename_i hj0;split at q
 ·cases q
 rename_i ds ρ1 e1;split at q
 case isFalse=>cases q
 rename_i hsz;split at q
 ·cases q
 rename_i ρ2 e2;split at q
 ·cases q
 rename_i ρ3 r3 e3;cases q;exact⟨ds,ρ1,ρ2,ρ3,r3,hj0,e1,hsz,e2,e3,rfl⟩
theorem HY{s u:Dm.FS}{ρ:Dm.Env}{o:Dm.Out}(hs:∀z,s ρ=some z->∃ρ',z=.nx ρ')(e:Dm.aD s u ρ=some o):∃ρ1,s ρ=some (.nx ρ1)/\u ρ1=some o:=by
 cases q:s ρ with
 |none=>unfold Dm.aD at e;rw[q]at e;cases e
 |some z=>obtain⟨ρ1,rfl⟩:=hs z q;unfold Dm.aD at e;rw[q]at e;exact⟨ρ1,rfl,e⟩
theorem Mq{σ:L2.St}{H:Hp}{D:Ends}{j own:Nat}{fi:Dm.FI}{bd:Dm.FB}{g:TG}{is:List Nat}{loop:Dm.FN}{gs:Dm.FS}(hb:BD is g bd)(hl:∀i∈is,σ.length<=i)(hj:j<σ.length)(h:tDS (Dm.aD (Dm.qp j fi own bd loop) gs) D σ H) :
  sH (uF (tLC (tDI fi) own g G6 (CI uG)) (iO j)) (sH (tDN j loop) (tDS gs)) D σ H:=by
 obtain⟨H0,ρ,o,st,e,k⟩:=h;obtain⟨ρ9,e9,e⟩:=HY (fun z q=>by obtain⟨_,_,_,_,_,_,_,_,_,_,z⟩:=t8 q;exact⟨_,z⟩) e;obtain⟨ds,ρ1,ρ2,ρ3,r3,hj0,e1,hsz,e2,e3,z9⟩:=t8 e9;cases z9;refine⟨H0,ρ,ds,ρ1,st,e1,fun J H00 Hb t1 jw L hL=>D5 (Q:=fun x H1=>iO j x σ H1 (sH (tDN j loop) (tDS gs) D)) hb hl t1.st jw hsz e2 L hL fun H0' H' ps st' sp' ho' hDl n0 nd hps hro=>?_⟩;have nL:¬ao σ ρ1 L:=t1.st.bX hL;have om:∀a,ao (σ.set j (some (.ref L))) ((ρ2.take ρ1.length).set j .un) a->ao σ (ρ2.take ρ1.length) a:=fun a ⟨i,d,h1,h2⟩=>by
  rcases aR h1 with⟨_,z⟩ | ⟨hij,h1⟩
  ·cases z
  ·rw[eg (Ne.symm hij)]at h2;exact⟨i,d,h1,h2⟩
 have st2:az H0' H' (σ.set j (some (.ref L))) ((ρ2.take ρ1.length).set j .un):={
  same:=st'.same
  len:=by rw[S3,S3];exact st'.len
  sh:=fun i d h=>by
   rcases aR h with⟨_,z⟩ | ⟨hij,h⟩
   ·cases z
   ·obtain⟨v,q,r⟩:=st'.sh i d h;exact⟨v,by rw[eg (Ne.symm hij)];exact q,r⟩
  ow:=fun i d h=>by
   rcases aR h with⟨_,z⟩ | ⟨hij,h⟩
   ·cases z
   ·obtain⟨v,q,r⟩:=st'.ow i d h;exact⟨v,by rw[eg (Ne.symm hij)];exact q,r⟩
  dis:=fun i i' d d' a h1 h2 h3 h4=>by
   rcases aR h1 with⟨_,z⟩ | ⟨q1,h1⟩
   ·cases z
   rcases aR h2 with⟨_,z⟩ | ⟨q2,h2⟩
   ·cases z
   rw[eg (Ne.symm q1)]at h3;rw[eg (Ne.symm q2)]at h4;exact st'.dis i i' d d' a h1 h2 h3 h4 }
 have sp:Stp (ao σ ρ) H0 H H0' H':=t1.stp.trans sp' fun a z=>.inl (t1.own a z);have n:NS j σ ρ H0 H (σ.set j (some (.ref L))) ((ρ2.take ρ1.length).set j .un) H0' H' (Dp ds.length []):=
  ⟨st2,sp,fun a z=>.inl (t1.own a (ho' a (om a z))),eg hj0,L,ps,SS hj,t1.stp.gone hL,n0,fun z=>nL (ho' L (om L z)),hDl,nd,fun p hp=>⟨t1.stp.gone (hps p hp).1,(hps p hp).2,fun z=>t1.st.bX (hps p hp).1 (ho' p (om p z))⟩,hro⟩
 refine⟨σ,ρ,H0,H,H0',_,_,ρ3,r3,n,e3,fun σ4 H4 Hd n4 _=>?_⟩;obtain⟨H5,t5⟩:=n4.done;exact⟨H5,_,o,t5.st,e,k.pre t5⟩
noncomputable abbrev DN(X:Cx)(j:Nat)(st:Stmt)(f:Dm.FN):Prop:=PS X st (tDN j f)
noncomputable abbrev DNs(X:Cx)(j:Nat)(st:List Stmt)(f:Dm.FN):Prop:=PSs X st (tDN j f)
section
variable{X:Cx}{st:Stmt}{rest:List Stmt}{fs gs:Dm.FN}{e c:Expr}{f:Dm.FE}{pos:Pos}{j:Nat}
theorem PB:DNs X j [] Dm.nNx:=PSs.weak z0 fun _ _ _=>Pw
theorem Mr(h1:DN X j st fs)(h2:DNs X j rest gs):DNs X j (st::rest) (Dm.BN fs gs):=PSs.weak (fk h1 h2) fun _ _ _=>Mm
theorem JN(h1:DN X j st fs):DNs X j [st] fs:=uD h1
theorem RK{t:Dm.FT}{x y:List Stmt}(ht:DT X c t)(ha:DNs X j x fs)(hb:DNs X j y gs):DN X j (.If c x y pos) (Dm.nIf t fs gs):=PS.weak (Cr ht ha hb) fun _ _ _=>Px
theorem PD{tg it:Expr}{fi:Dm.FI}{is:List Nat}{bd:Dm.FB}{body:List Stmt}(hp:PassesOwn (model X.prog X.w) X.A X.env X.xe)(hc:X.calm=true)(hi:DI X tg it fi)(hg:TG' X tg is bd)(hb:DNs X j body fs)(hj:decide (j∈is)=false:=by rfl)
  (hs:∀x,foldedSetIterable it X.env x=pure x:=by intro _;rfl):DN X j (.For tg it body [] pos) (Dm.y_ fi bd fs):=by
 obtain⟨g,h1,h2⟩:=hg.ex;exact PS.weak (yE hp hc hi h1 hb hs) fun _ _ _=>Mn h2 (of_decide_eq_false hj)
theorem JO{x:Str}{i:Expr}{fi:Dm.FE}{px sp ap cp:Pos}(hi':DE X i fi)(he:DE X e f)(hi:X.N[j]?=some x:=by rfl)(hv:Vis X.env.scope x:=by trivial)(hd:(x == ("__debug__" : Str))=false:=by decide)
  (hcd:(x == ("__classdict__" : Str))=false:=by decide) (hpl:uI i:=by intro _ _;rfl) (hbase:attributeBase (.Subscript (.Name x px) i sp) "append" X.env (eval (.Subscript (.Name x px) i sp) X.env)=eval (.Subscript (.Name x px) i sp) X.env:=by rfl)
  (hfew:((backTo cp (starEach [e] X.env)).all (fun x=>!x.1)&&(backToKw cp (keywordEach [] X.env)).all (fun x=>x.1.isSome)
   && decide ([e].length+([]:List Keyword).length+(if ([]:List Keyword).isEmpty then 0 else 1)<30))=true:=by rfl)
  (hline:(ap.endLine == cp.line)=true:=by rfl) (hs:starEach [e] X.env=(false,eval e X.env)::starEach [] X.env:=by rfl) (hplain:(backTo cp (starEach [] X.env)).any (·.1)=false:=by rfl)
  (hsw:swapsWith (.Call (.Attribute (.Subscript (.Name x px) i sp) "append" ap) [e] [] cp) none pos.line X.env=pure false:=by rfl) :
  DN X j (.Expr (.Call (.Attribute (.Subscript (.Name x px) i sp) "append" ap) [e] [] cp) pos) (Dm.y9 fi f):=
 PS.weak (jB (vV Uj US UT jC (Jt z8 (fG hi hv hd hcd) hi' hpl) (aa he af hs) hbase hfew hline hs hplain) hsw) fun _ _ _=>Mp
theorem Ms(j:Nat)(nm own:List Str){y:Str}{py spos zb:Pos}{tg iter:Expr}{scope:Scope}{is:List Nat}{bd:Dm.FB}{fi:Dm.FI}{loop:Dm.FN}{gs:Dm.FS}{lst:Stmt}(hN:X.N.Nodup)(hg:TGc X nm scope own tg is bd)(hi:DI X tg iter fi)(hlp:DN X j lst loop)(hre:DSs X rest gs)
  (hc:X.calm=true:=by rfl) (hk:scope.kind=.function:=by rfl) (hS:qe X.env.scope X.N nm scope=true:=by rfl) (hl:(is.all fun i=>decide (X.N.length<=i))=true:=by rfl) (hj:X.N[j]?=some y:=by rfl) (hy:Loc X.env.scope y:=by trivial)
  (hsw:swapsWith (.ListComp (.List [] zb) [⟨tg,iter,[],0⟩] scope pos) (some (.Name y py)) spos.line X.env=pure true:=by rfl) (hs:∀y,foldedSetIterable iter X.env y=pure y:=by intro _;rfl)
  (hf:X.fn y=true\/X.env.scope.names.lookup y=some .local:=by trivial) :
  DSs X (.Assign [.Name y py] (.ListComp (.List [] zb) [⟨tg,iter,[],0⟩] scope pos) spos::lst::rest) (Dm.aD (Dm.qp j fi own.length bd loop) gs):=by
 obtain⟨g,h1,h2⟩:=hg.ex;have h:=fk (iW hN hj hy hc (fK.of hS hk) hi h1 (fun cl C s H fp=>Ac) (fun cl C s H fp=>yG (pos:=zb) gS) hsw hs hf) (fk hlp hre);intro pins s σ H D I q;exact h pins s σ H D I (Mq h2 (fun i hi=>by rw[I.len];exact wk hl i hi) (by rw[I.len];exact(Sw.mp hj).1) q)
end
theorem Av{H0:Hp}(i:Int):∀{kvs:List (Key×V)} {ks:List Int} {ds:List Dm.Dat},kvs.map (·.1)=ks.map SX->aH H0 (kvs.map (·.2)) ds ->
  (nR kvs (SX i)).map (·.1)=(Dm.g6 ks ds i).map SX/\aH H0 ((nR kvs (SX i)).map (·.2)) (Dm.g7 ks ds i)
 |[],[],ds,_,r=>by cases r;exact⟨rfl,.nil⟩
 |[],_::_,_,e,_=>by cases e
 |_::_,[],_,e,_=>by cases e
 |(k,v)::kvs,k'::ks,ds,e,r=>by
  rw[Dk,Dk]at e;injection e with e1 e2
  cases r with
  |cons h t=>
   obtain⟨i1,i2⟩:=Av i e2 t;unfold nR at i1 i2 ⊢;dsimp only at e1;subst e1;by_cases q:k'=i
   ·subst q;rw[TF (by simp),Dm.g6,if_pos rfl,Dm.g7,if_pos rfl];exact⟨i1,i2⟩
   ·have q':¬(SX k':Key)=SX i:=uV q;rw[TH (by simpa using q'),Dm.g6,if_neg q,Dm.g7,if_neg q];exact⟨by rw[Dk,Dk,i1],by rw[Dk];exact .cons h i2⟩
section
variable{σ:L2.St}{H:Hp}{Q:VK}
theorem Mt{i:Nat}{f:Dm.FE}(h:tD (Dm.qq i f) σ H Q):CV (pL i) (tD f) σ H Q:=by
 obtain⟨H0,ρ,x,ρ',st,e,k⟩:=h;unfold Dm.qq at e;split at e
 case h_2=>cases e
 rename_i ks0 vs0 h0;split at e
 case h_2=>cases e
 rename_i m ρ1 e1;split at e
 case h_2=>cases e
 rename_i ks vs h1;split at e
 case h_2=>cases e
 rename_i d hl;cases e;obtain⟨a0,q0,n0,Mg,y0,_⟩:=st.ow i _ h0;refine⟨_,q0,a0,rfl,.inl ⟨Mg,.inl y0⟩,H0,ρ,_,ρ1,st,e1,fun u H1 Hb t1 r1=>?_⟩;have hu:=Rep.isInt r1;subst hu;obtain⟨a,q,n,w⟩:=t1.st.ow i _ h1;rw[q0]at q;cases q;obtain⟨kvs,y,ek,rs⟩:=w;rcases jE m ek rs with⟨d',v,l1,l2,r⟩ | ⟨l1,_⟩
 ·rw[hl]at l1;cases l1;obtain⟨p1,p2⟩:=Av m ek rs;have ow:ao σ ρ1 a0:=⟨i,_,h1,q0⟩
  have hil:i<ρ1.length:=(Sw.mp h1).1;refine⟨kvs,SX m,v,y,rfl,l2,k v H1 _ ⟨t1.st.write h1 q0 ⟨_,au,p1,p2⟩,t1.stp.trans (Stp.write ow) fun b z=>.inl (t1.own b z),fun b z=>t1.own b (dS h1 z),fun j z=>trivial⟩ r⟩
 ·rw[hl]at l1;cases l1
end
theorem zc{X:Cx}:fm X (.type "dict") (fun xs H Q=>∃a kvs,xs=[.ref a]/\H a=some (.dK kvs)/\∀p,H p=none->Q (.ref p) (upd H p (.dK kvs))):=by intro pins s σ H xs us Q I r h;obtain⟨a,kvs,rfl,ha,k⟩:=h;obtain⟨u,rfl,rx⟩:=vals1 r;cases rx;exact CZ I (.inl ha) fun p s' hp I'=>⟨.ref p,_,I',rfl,k p hp⟩
theorem HZ:CallD (fun xs H Q=>∃a kvs,xs=[.ref a]/\H a=some (.dK kvs)/\∀p,H p=none->Q (.ref p) (upd H p (.dK kvs))) Dm.wI:=by
 intro H0 H vs ds z Q s rs e k;unfold Dm.wI at e;split at e
 ·cases e;cases rs with
  |cons r rr=>cases rr;obtain⟨a,kvs,rfl,ha,ek,rs⟩:=fZ s r;refine⟨a,kvs,rfl,ha,fun p hp=>k _ _ _ (aQ.oZ s hp) ⟨p,rfl,hp,s.free hp,kvs,au,ek,rs⟩⟩
 ·cases e
theorem qt:∀(its:List Value) (ns:List Int),its.length=ns.length->(∀(i:Nat) (v:Value),its[i]?=some v->∃n,ns[i]?=some n/\∃t,v=Value.int n t)->IntsAre its ns
 |[],[],_,_=>.nil
 |[],_::_,h,_=>by cases h
 |_::_,[],h,_=>by cases h
 |v::its,n::ns,h,k=>by
  obtain⟨m,h1,t,h2⟩:=k 0 v rfl;simp at h1;subst h1;subst h2;exact .cons n t (qt its ns (by simpa using h) fun i v e=>by obtain⟨m,q1,q2⟩:=k (i+1) v (by simpa using e);exact⟨m,by simpa using q1,q2⟩)
theorem Aw:∀{kvs:List (Key×V)} {vs:List (Key×Value)},KV kvs vs->vs.map (·.1)=kvs.map (·.1)
 |_,_,.nil=>rfl
 |_,_,.cons h t=>by rw[Dk,Dk,Aw t,h.1]
theorem gI:∀{its:List Value} {ns:List Int},IntsAre its ns->Vals (ns.map V.int) its
 |_,_,.nil=>.nil
 |_,_,.cons n t h=>.cons ⟨t,rfl⟩ (gI h)
noncomputable def D6:List V->Hp->VK->Prop:=fun xs H Q=>∃(p:Addr) (kvs:List (Key×V)) (ns:List Int),xs=[.ref p]/\H p=some (.dK kvs)/\kvs.map (·.1)=ns.map SX/\ns.length<=63 /\
 ∀(ms:List Int) (l:Addr),ms.Perm ns->ms.Pairwise (·<=·)->H l=none->Q (.ref l) (upd H l (.lst (ms.map V.int)))
theorem zd{X:Cx}(hc:X.calm=true):fm X (.builtin "sorted") D6:=by
 intro pins s σ H xs us Q I r h;obtain⟨p,kvs,ns,rfl,hq,ek,hl,k⟩:=h;obtain⟨u,rfl,rx⟩:=vals1 r;cases rx;obtain⟨z,hd,vs,rel,dd⟩:=pP I.hok hq;obtain⟨ep,hat⟩:=dd.dictAt;have hlen:vs.length=ns.length:=by
  rw[<- rel.length];have:=congrArg List.length ek
  simpa using this
 have hns:vs.length<=sizeLine:=by rw[<- rel.length];exact z
 refine Calls.call_function_entry kind_sorted plain_sorted entry_sorted (args_sorted1 _) ?_;unfold Builtin.«sorted»;refine wpAny_bind (m:=checkCount "sorted" 1 1 _) (wpAny_pure ?_);refine wpAny_bind (PySem.W.kdu_collect (A:=X.A.in1) (PySem.W.kdl_dict (knd:=a_ X.prog X.w) (kvs:=vs) (ep:=ep) hd) (I.ok.hd hc) hat hns fun h' tk acc hk hacc=>?_);have hsz:acc.toList.length=ns.length:=by rw[UL,hacc.1,hlen]
 have hI:IntsAre acc.toList ns:=qt _ _ hsz fun i v e=>by
  obtain⟨ky,x,h1,h2⟩:=hacc.2 i v (by rw[<- UE];exact e);have hk1:(vs.map (·.1))[i]?=some ky:=by rw[SM,h1];rfl
  rw[Aw rel,ek,SM]at hk1;cases q:ns[i]? with
  |none=>rw[q]at hk1;cases hk1
  |some n=>rw[q]at hk1;cases hk1;exact⟨n,rfl,(Value.isInt_shape (k:=n) (v:=v) h2)⟩
 have hn:acc.toList.length<=63:=by rw[hsz];exact hl
 refine wpAny_bind (wpAny_newList ?_ (Tn hn (by decide)));have hL0:(h'.push (seqObj "list" acc.toList.toArray 0)).get? h'.objs.size=some (seqObj "list" acc.toList.toArray 0):=SY _ rfl;have I1:=I.kept (t':=tk) hk;refine wpAny_bind (wpAny_holding (wpAny_call_entry (s:={ s with heap:=h'.push (seqObj "list" acc.toList.toArray 0),toks:=tk }) slot_list_sort ⟨_,hL0,rfl⟩ entry_list_sort (list_sort_tree hL0 hI (by omega) fun out ms a1 a2 a3=>⟨_,rfl,?_⟩) (args_list_sort _)));obtain⟨c,hc'⟩:=sortedHeap_at (out:=out) hL0;have hz2:(ms.map V.int).length<=sizeLine:=by rw[Sx,a2.length_eq];exact Tn hl (by decide)
 refine wpAny_pure ⟨_,rfl,.ref h'.objs.size,_,I1.laid (t':=tk) (fun b o e=>?_) (Sz _) (show br X.prog X.w _ _ _ (.lst (ms.map V.int)) from ⟨hz2,out.toList,c,gI a1,by simpa using hc'⟩),rfl,k ms _ a2 a3 (I1.hok.fresh (Sz _))⟩;have lt:=SD e;rw[sortedHeap_old (S0 lt) (by rw[size_push'];exact Vq lt)];exact PU _ e
theorem D7:CallD D6 Dm.nA:=by
 intro H0 H vs ds z Q s rs e k;unfold Dm.nA at e;split at e
 ·rename_i ks vs';split at e
  case isFalse=>cases e
  rename_i hl;cases e;cases rs with
  |cons r rr=>
   cases rr;obtain⟨a,kvs,rfl,ha,ek,rs⟩:=fZ s r;refine⟨a,kvs,ks,rfl,ha,ek,hl,fun ms l pm so hp=>?_⟩;have em:ms=Dm.iB (fun a b=>decide (a<b)) ks:=Dm.n8 (lt:=fun a b=>decide (a<b)) (fun a b h1 h2=>by simp at h1 h2;omega) (pm.trans (Dm.gX _ ks).symm) (so.imp fun {a b} h=>by simp;omega)
    (Dm.gY (fun a b c h1 h2=>by simp at *;omega) (fun a b h=>by simp at *;omega) ks)
   exact k _ _ _ (aQ.oZ s hp) ⟨l,rfl,hp,s.free hp,_,au,by rw[<- em];exact tU ms⟩
 ·cases e
theorem Mu{ρ ρ':Dm.Env}{x:Dm.Val}{d:Dm.Dat}(e:Dm.tkd ρ x=some (d,ρ')):Dm.tk ρ x=some (d,ρ')\/∃i ks vs,x=.slot i/\ρ[i]?=some (.ow (.dct ks vs))/\d=.dct ks vs/\ρ'=ρ:=by
 cases x with
 |val d'=>exact .inl e
 |new d'=>exact .inl e
 |slot i=>
  unfold Dm.tkd at e;dsimp only at e;split at e
  ·rename_i ks vs h;cases e;exact .inr ⟨i,ks,vs,rfl,h,rfl,rfl⟩
  ·rename_i d' _ h;left;unfold Dm.tk;dsimp only;rw[h];exact e
  ·rename_i d' h;left;unfold Dm.tk;dsimp only;rw[h];exact e
  ·cases e
theorem D8{ρ ρ':Dm.Env}{x:Dm.Val}{d:Dm.Dat}{i:Nat}{ks:List Int}{vs:List Dm.Dat}(e:Dm.tkd ρ x=some (d,ρ'))(h:ρ[i]?=some (.ow (.dct ks vs))):ρ'[i]?=some (.ow (.dct ks vs)):=by
 cases x with
 |val d'=>cases e;exact h
 |new d'=>cases e;exact h
 |slot j=>
  unfold Dm.tkd at e;dsimp only at e;split at e
  ·cases e;exact h
  ·rename_i d' hn hj;cases e;by_cases q:j=i
   ·subst q;rw[h]at hj;cases hj;exact absurd rfl (hn ks vs)
   ·rw[eg q];exact h
  ·cases e;exact h
  ·cases e
theorem t9{i:Nat}{ks:List Int}{vs:List Dm.Dat}:∀{xs:List Dm.Val} {ρ ρ':Dm.Env} {ds:List Dm.Dat},Dm.za ρ xs=some (ds,ρ')->ρ[i]?=some (.ow (.dct ks vs))->ρ'[i]?=some (.ow (.dct ks vs))
 |[],_,_,_,e,h=>by cases e;exact h
 |x::xs,ρ,ρ',ds,e,h=>by
  unfold Dm.za at e;split at e
  ·cases e
  rename_i d ρ1 e1;split at e
  ·cases e
  rename_i ds' ρ2 e2;cases e;exact t9 e2 (D8 e1 h)
noncomputable def RL(H0:Hp)(σ:L2.St)(ρ:Dm.Env)(v:V)(d:Dm.Dat):Prop:=Rep H0 v d\/∃(i:Nat) (b:Addr) (ks:List Int) (vs:List Dm.Dat),d=.dct ks vs/\v=.ref b/\ρ[i]?=some (.ow (.dct ks vs))/\σ[i]?=some (some (.ref b))
inductive wK(H0:Hp)(σ:L2.St)(ρ:Dm.Env):List V->List Dm.Dat->Prop
 |nil:wK H0 σ ρ [] []
 |cons {v:V} {d:Dm.Dat} {vs:List V} {ds:List Dm.Dat}:RL H0 σ ρ v d->wK H0 σ ρ vs ds->wK H0 σ ρ (v::vs) (d::ds)
theorem ze{Hs H0s H0 H:Hp}{σ:L2.St}{ρs:Dm.Env}:∀{xs:List Dm.Val} {vs:List V} {ρ ρ':Dm.Env} {ds:List Dm.Dat} {H0c:Hp},ESt σ ρs H0s Hs ρ H0c H->av H0 H0c->cz Hs H0 H σ ρ vs xs->Dm.za ρ xs=some (ds,ρ') ->
  ∃pW,ESt σ ρs H0s Hs ρ' pW H/\av H0c pW/\wK pW σ ρ' vs ds
 |[],_,ρ,ρ',ds,H0c,t,b,r,e=>by cases r;cases e;exact⟨H0c,t,av.refl _,.nil⟩
 |x::xs,_,ρ,ρ',ds,H0c,t,b,r,e=>by
  cases r with
  |cons h r=>
   unfold Dm.za at e;split at e
   ·cases e
   ·rename_i d ρ1 e1;split at e
    ·cases e
    ·rename_i ds' ρ2 e2;cases e;rcases Mu e1 with e1' | ⟨i,ks,vs,rfl,hi,rfl,rfl⟩
     ·obtain⟨H1,t1,b1,r1,o1,d1⟩:=take1 t b h e1';obtain⟨H2,t2,b2,r2⟩:=ze t1 (b.trans b1) (r.rho o1 d1) e2;exact⟨H2,t2,b1.trans b2,.cons (.inl (r1.mono b2)) r2⟩
     ·obtain⟨H2,t2,b2,r2⟩:=ze t b r e2;obtain⟨q,_⟩:=h;obtain⟨a,z,_⟩:=t.st.ow i _ hi;rw[q]at z;cases z;exact⟨H2,t2,b2,.cons (.inr ⟨i,a,ks,vs,rfl,rfl,t9 e2 hi,q⟩) r2⟩
mutual
theorem Rep.noD{H H':Hp}(hk:∀a o,H a=some o->H' a=some o\/∃kvs,o=.dK kvs):∀{v:V} {d:Dm.Dat},Rep H v d->Dm.cR d=true->Rep H' v d
 |_,_,.non,_=>.non
 |_,_,.bl b,_=>.bl b
 |_,_,.int i,_=>.int i
 |_,_,.str x,_=>.str x
 | _,_,.tup h r,n=>.tup (by
   rcases hk _ _ h with z | ⟨_,z⟩
   ·exact z
   ·cases z) (aH.noD hk r (by unfold Dm.cR at n;exact n))
 | _,_,.lst h r,n=>.lst (by
   rcases h with h | ⟨o,h⟩
   ·rcases hk _ _ h with z | ⟨_,z⟩
    ·exact .inl z
    ·cases z
   ·rcases hk _ _ h with z | ⟨_,z⟩
    ·exact .inr ⟨o,z⟩
    ·cases z) (aH.noD hk r (by unfold Dm.cR at n;exact n))
 |_,_,.dct _ _ _,n=>by unfold Dm.cR at n;cases n
 |_,_,.exc _,n=>by unfold Dm.cR at n;cases n
 |_,_,.fn a,_=>.fn a
theorem aH.noD{H H':Hp}(hk:∀a o,H a=some o->H' a=some o\/∃kvs,o=.dK kvs):∀{vs:List V} {ds:List Dm.Dat},aH H vs ds->Dm.i7 ds=true->aH H' vs ds
 |_,_,.nil,_=>.nil
 |_,_,.cons h r,n=>by unfold Dm.i7 at n;rw[Td]at n;exact .cons (Rep.noD hk h n.1) (aH.noD hk r n.2)
end
open Classical in
theorem D9{σ:L2.St}{H:Hp}{Q:VK}{f:List Dm.Dat->Option Dm.RV}{fs:List Dm.FE}{E:XK}(h:tD (Dm.eFd f fs) σ H Q):tF (spD f) [] E (tDA fs) σ H Q:=by
 obtain⟨H0,ρ,x,ρ',st,e,k⟩:=h;unfold Dm.eFd at e;split at e
 ·cases e
 rename_i xs ρ1 e1;split at e
 ·cases e
 rename_i ds ρ2 e2;split at e
 ·cases e
 rename_i z fz;split at e
 case isFalse=>cases e
 rename_i hno;injection e with e
 injection e with ea eb
 subst ea;subst eb;refine⟨H0,ρ,xs,ρ1,st,e1,fun vs H1 Hb t1 r1=>?_⟩;dsimp only;rw[Tz];obtain⟨H2,t2,b2,r2⟩:=ze t1 (av.refl _) r1 e2
 let B:Addr->Prop:=fun b=>∃(i:Nat) (ks:List Int) (vs:List Dm.Dat),ρ2[i]?=some (.ow (.dct ks vs))/\σ[i]?=some (some (.ref b))
 have hB:∀b,B b->H2 b=none/\∃kvs,Hb b=some (.dK kvs):=fun b ⟨i,ks,vs,h1,h2⟩=>by obtain⟨a,q,n,kvs,w,_⟩:=t2.st.ow i _ h1;rw[h2]at q;cases q;exact⟨n,kvs,w⟩
 let H2':Hp:=fun b=>if B b then Hb b else H2 b
 have in':∀b,B b->H2' b=Hb b:=fun b h=>if_pos h;have out':∀b,¬B b->H2' b=H2 b:=fun b h=>if_neg h;have s2:av H2 H2':=fun b o e=>by
  by_cases q:B b
  ·rw[(hB b q).1]at e;cases e
  ·rw[out' b q];exact e
 have s2b:av H2' Hb:=fun b o e=>by
  by_cases q:B b
  ·rw[in' b q]at e;exact e
  ·rw[out' b q]at e;exact t2.st.same _ _ e
 have rr:∀{vs:List V} {ds:List Dm.Dat},wK H2 σ ρ2 vs ds->aH H2' vs ds:=fun {vs ds} r=>by
  induction r with
  |nil=>exact .nil
  |cons h _ ih=>
   refine .cons ?_ ih;rcases h with h | ⟨i,b,ks,vs',rfl,rfl,h1,h2⟩
   ·exact h.mono s2
   ·obtain⟨a,q,n,kvs,w,ek,rs⟩:=t2.st.ow i _ h1;rw[h2]at q;cases q;exact .dct (by rw[in' _ ⟨i,ks,vs',h1,h2⟩];exact w) ek (rs.mono s2)
 refine⟨H2',ds,z,s2b,rr r2,fz,fun w H3 Hd g3 r3=>?_⟩
 let H3':Hp:=fun b=>if B b then none else H3 b
 have in3:∀b,B b->H3' b=none:=fun b h=>if_pos h;have D_:∀b,¬B b->H3' b=H3 b:=fun b h=>if_neg h;have gr:aQ H2 Hb H3' Hd:=⟨fun b o e=>by
   by_cases q:B b
   ·rw[(hB b q).1]at e;cases e
   ·rw[D_ b q];exact g3.s0 _ _ (s2 _ _ e),g3.s1,fun b o e=>by
   by_cases q:B b
   ·rw[in3 b q]at e;cases e
   ·rw[D_ b q]at e;rcases g3.s2 b o e with y | y
    ·exact .inl y
    ·rw[out' b q]at y;exact .inr y,fun b o e=>by
   by_cases q:B b
   ·rw[in3 b q]at e;cases e
   ·rw[D_ b q]at e;exact g3.s3 _ _ e⟩
 have hk:∀a o,H3 a=some o->H3' a=some o\/∃kvs,o=.dK kvs:=fun a o e=>by
  by_cases q:B a
  ·obtain⟨_,kvs,y⟩:=hB a q;have:=g3.s0 a _ ((in' a q).trans y);rw[e]at this;exact .inr ⟨kvs,Option.some.inj this⟩
  ·exact .inl (by rw[D_ a q];exact e)
 have r3':wc Hb H3' Hd w z:=by
  cases z with
  |val d=>exact Rep.noD hk r3 hno
  |new d=>
   obtain⟨a,ea,n,n0,w'⟩:=r3;refine⟨a,ea,n,?_,?_⟩
   ·by_cases q:B a
    ·exact in3 a q
    ·rw[D_ a q];exact n0
   ·cases d with
    |lst ds'=>obtain⟨ys,y1,y2⟩:=w';exact⟨ys,y1,aH.noD hk y2 (by have:Dm.cR (.lst ds')=true:=hno;unfold Dm.cR at this;exact this)⟩
    |dct ks ds'=>have:Dm.cR (.dct ks ds')=true:=hno;unfold Dm.cR at this;cases this
    |_=>exact w'.elim
 exact k w H3' Hd (t2.trans (.grow t2.st gr)) ((r3'.toV t2.st).early fun a n=>t2.stp.gone n)
section
variable{X:Cx}{e b:Expr}{es:List Expr}{fs:List Dm.FE}{fb:Dm.FE}{p pos:Pos}
theorem qu{k:Nat}{F:Addr}{fd:FuncData}{ps:List Str}{g:List Dm.Dat->Option Dm.RV}{x:Str}(G:aV X.prog X.w X.K X.mg X.base CX0 k F fd ps (spD g))(hr:b5 k X.A)(hg:Gl X x)(hm:X.mg x=some (.ref F))(hk:Tw X.K (.ref F)=true)(hb:Binds X.K fd ps [])
  (ha:DA X (e::es) fs) (hdb:(x == ("__debug__" : Str))=false:=by decide) (he:starEach (e::es) X.env=(false,eval e X.env)::starEach es X.env:=by rfl) (hpl:(backTo pos (starEach es X.env)).any (·.1)=false:=by rfl) :
  DE X (.Call (.Name x p) (e::es) [] pos) (Dm.eFd g fs):=PE.weak (lU G hr hg hm hk hb .nil (vY (X:=X)) ha hdb he hpl) fun _ _ _=>D9
theorem Mv(hg:Gl X "dict")(hm:X.mg "dict" = none)(ha:DA X [e] fs)(he:starEach [e] X.env=[(false,eval e X.env)]:=by rfl)(hpl:(backTo pos (starEach [] X.env)).any (·.1)=false:=by rfl):DE X (.Call (.Name "dict" p) [e] [] pos) (Dm.eB Dm.wI fs):=Ho zc HZ (by rfl) hg hm ha (he:=he) (hpl:=hpl)
theorem H_(hc:X.calm=true)(hg:Gl X "sorted")(hm:X.mg "sorted" = none)(ha:DA X [e] fs)(he:starEach [e] X.env=[(false,eval e X.env)]:=by rfl)(hpl:(backTo pos (starEach [] X.env)).any (·.1)=false:=by rfl):DE X (.Call (.Name "sorted" p) [e] [] pos) (Dm.eB Dm.nA fs):=BB (zd hc) D7 (by rfl) hg hm ha (he:=he) (hpl:=hpl)
theorem Ea(i:Nat){x:Str}{px apos cpos:Pos}(hb:DE X b fb)(hi:X.N[i]?=some x:=by rfl)(hv:Vis X.env.scope x:=by trivial)(hd:(x == ("__debug__" : Str))=false:=by decide)
  (hcd:(x == ("__classdict__" : Str))=false:=by decide) (m:M1 X (.Name x px) "pop" apos b cpos:=by exact⟨rfl,rfl,rfl,rfl⟩):DE X (.Call (.Attribute (.Name x px) "pop" apos) [b] [] cpos) (Dm.qq i fb):=PE.weak (CY (fG hi hv hd hcd) hb m) fun _ _ _=>Mt
end
section
variable{X:Cx}{a b c e:Expr}{fa fb fc:Dm.FE}{p pos:Pos}
theorem bits_le{i:Int}(h:i.natAbs.log2<1000000):U8 i<=2 ^ 20:=by
 have:U8 i<=i.natAbs.log2+1:=by
  unfold U8
  first | omega | (split<;>omega) | simp
 omega
noncomputable def JP(i j:Int):Prop:=i.natAbs.log2<1000000/\j.natAbs.log2<1000000
theorem Ia:OpR X (binaryOp .Mult) (rI JP fun i j=>.int (i*j)):=opI fun _ _ _ _ _ _ _ hc q=>mul_int q (.of_bits (bits_le hc.1) (bits_le hc.2))
theorem Ib:OpD (rI JP fun i j=>.int (i*j)) Dm.mq:=by
 intro H0 H x y dx dy z Q s rx ry e k;unfold Dm.mq at e;split at e
 ·split at e
  case isFalse=>cases e
  rename_i hb;cases e;cases aG rx;cases aG ry;exact⟨_,_,rfl,rfl,hb,k _ H0 H (aQ.refl s) (.int _)⟩
 ·cases e
theorem uZ(ha:DE X a fa)(hb:DE X b fb):DE X (.BinOp a .Mult b pos) (Dm.e2 Dm.mq fa fb):=wg Ia Ib ha hb
end
theorem t_{Hs H0 H:Hp}{σ:L2.St}{ρ:Dm.Env}:∀{xs:List Dm.Val} {vs:List V} {ds:List Dm.Dat},cz Hs H0 H σ ρ vs xs->Dm.nB xs=some ds->aH H0 vs ds
 |[],_,_,.nil,e=>by cases e;exact .nil
 |.val d::xs,_,ds,.cons h r,e=>by
  unfold Dm.nB at e;cases q:Dm.nB xs with
  |none=>rw[q]at e;cases e
  |some es=>rw[q]at e;cases e;exact .cons h (t_ r q)
 |.new _::_,_,_,_,e=>by cases e
 |.slot _::_,_,_,_,e=>by cases e
theorem Ic{σ:L2.St}{H:Hp}{Q:VK}{f:List Dm.Dat->Option (Dm.RV×Dm.Dat)}{f0:Dm.FE}{fs:List Dm.FE}{E:XK}(h:tD (Dm.eFn f f0 fs) σ H Q):tF (spM f) [] E (tDA (f0::fs)) σ H Q:=by
 obtain⟨H0,ρ,x,ρ',st,e,k⟩:=h;unfold Dm.eFn at e;split at e
 case h_2=>cases e
 rename_i d xs ρ1 e1;split at e
 ·cases e
 rename_i ds e2;split at e
 ·cases e
 rename_i z d' fz;cases e;refine⟨H0,ρ,_,_,st,e1,fun vs H1 Hb t1 r1=>?_⟩;dsimp only;rw[Tz];cases r1 with
 |cons r0 rr=>
  obtain⟨a,rfl,n,no,n0,w⟩:=r0;obtain⟨oa,ha⟩:=w.some;refine⟨H1,a,_,d,ds,z,d',rfl,t1.st.same,n0,w,t_ rr e2,fz,fun v H3 Hd s3 ss n3 w3 r3=>?_⟩;have st3:az H3 Hd σ ρ':=t1.st.off s3.s0 ss no (fun b o y nb=>s3.s1 b o y nb) fun i d4 b y1 y2=>by
   obtain⟨b',q',nb',w'⟩:=t1.st.ow i d4 y1;rw[y2]at q';cases q';cases y:H3 b with
   |none=>rfl
   |some o=>
    obtain⟨o',z'⟩:=w'.some;rcases s3.s2 b o y with y3 | y3 | y3
    ·rw[y3]at z';cases z'
    ·rw[nb']at y3;cases y3
    ·exact absurd ⟨i,d4,y1,y3▸y2⟩ no
  exact k v H3 Hd ⟨st3,t1.stp.trans s3 fun b y=>.inr (by rw[y];exact n),t1.own,t1.dfn⟩ ((r3.toV t1.st).early fun b y=>t1.stp.gone y)
theorem Ie{X:Cx}{e0:Expr}{es:List Expr}{p pos:Pos}{k:Nat}{F:Addr}{fd:FuncData}{ps:List Str}{g:List Dm.Dat->Option (Dm.RV×Dm.Dat)}{x:Str}{f0:Dm.FE}{fs:List Dm.FE}(G:aV X.prog X.w X.K X.mg X.base CX0 k F fd ps (spM g))(hr:b5 k X.A)(hg:Gl X x)(hm:X.mg x=some (.ref F))(hk:Tw X.K (.ref F)=true)(hb:Binds X.K fd ps [])
  (ha:DA X (e0::es) (f0::fs)) (hdb:(x == ("__debug__" : Str))=false:=by decide) (he:starEach (e0::es) X.env=(false,eval e0 X.env)::starEach es X.env:=by rfl) (hpl:(backTo pos (starEach es X.env)).any (·.1)=false:=by rfl) :
  DE X (.Call (.Name x p) (e0::es) [] pos) (Dm.eFn g f0 fs):=PE.weak (lU G hr hg hm hk hb .nil (vY (X:=X)) ha hdb he hpl) fun _ _ _=>Ic
open PySem
variable{C:List Value->Prop}{us:List Value}
theorem len0(h:us.length=0)(c:C []):C us:=by rw[List.eq_nil_of_length_eq_zero h];exact c
theorem Eb{n:Nat}{C:List Value->Prop}{us:List Value}(h:us.length=n+1)(c:∀a us,us.length=n->C (a::us)):C us:=by
 cases us with
 |nil=>cases h
 |cons a us=>exact c a us (by simpa using h)
theorem PF(h:us.length=1)(c:∀a,C [a]):C us:=Eb h fun a _ h=>len0 h (C:=fun us=>C (a::us)) (c a)
theorem BI(h:us.length=2)(c:∀a b,C [a,b]):C us:=Eb h fun a _ h=>PF h (C:=fun us=>C (a::us)) (c a)
theorem PJ(h:us.length=3)(c:∀a b d,C [a,b,d]):C us:=Eb h fun a _ h=>BI h (C:=fun us=>C (a::us)) (c a)
theorem PK(h:us.length=4)(c:∀a b d e,C [a,b,d,e]):C us:=Eb h fun a _ h=>PJ h (C:=fun us=>C (a::us)) (c a)
theorem RM(h:us.length=5)(c:∀a b d e f,C [a,b,d,e,f]):C us:=Eb h fun a _ h=>PK h (C:=fun us=>C (a::us)) (c a)
end Br
namespace L2
open PySem
variable{K:gV}{x qual:Str}{st:Stmt}{f:Addr}{fd:FuncData}{ps:List Str}
theorem Fun.gA(F:Fun K x qual st f fd)(hp:ps.length=1)(h:∀(kV doc pm:Value) (an:Option Addr) (cdv ct:Value) (a:Value),bindArgs (S5 x qual (bx st) (aW st) (ai st) .none kV doc pm an cdv ct) ⟨[a],[]⟩=pure (ps.zip [a])):Binds K fd ps []:=
 F.binds fun kV doc pm an cdv ct us hl=>Br.PF (C:=fun us=>bindArgs (S5 x qual (bx st) (aW st) (ai st) .none kV doc pm an cdv ct) ⟨us,[]⟩=pure (ps.zip us)) (hl.trans hp) (h kV doc pm an cdv ct)
theorem Fun.cS(F:Fun K x qual st f fd)(hp:ps.length=2)(h:∀(kV doc pm:Value) (an:Option Addr) (cdv ct:Value) (a b:Value),bindArgs (S5 x qual (bx st) (aW st) (ai st) .none kV doc pm an cdv ct) ⟨[a,b],[]⟩=pure (ps.zip [a,b])):Binds K fd ps []:=
 F.binds fun kV doc pm an cdv ct us hl=>Br.BI (C:=fun us=>bindArgs (S5 x qual (bx st) (aW st) (ai st) .none kV doc pm an cdv ct) ⟨us,[]⟩=pure (ps.zip us)) (hl.trans hp) (h kV doc pm an cdv ct)
theorem Fun.g8(F:Fun K x qual st f fd)(hp:ps.length=3)(h:∀(kV doc pm:Value) (an:Option Addr) (cdv ct:Value) (a b d:Value),bindArgs (S5 x qual (bx st) (aW st) (ai st) .none kV doc pm an cdv ct) ⟨[a,b,d],[]⟩=pure (ps.zip [a,b,d])):Binds K fd ps []:=
 F.binds fun kV doc pm an cdv ct us hl=>Br.PJ (C:=fun us=>bindArgs (S5 x qual (bx st) (aW st) (ai st) .none kV doc pm an cdv ct) ⟨us,[]⟩=pure (ps.zip us)) (hl.trans hp) (h kV doc pm an cdv ct)
theorem Fun.Mw(F:Fun K x qual st f fd)(hp:ps.length=4)(h:∀(kV doc pm:Value) (an:Option Addr) (cdv ct:Value) (a b d e:Value),bindArgs (S5 x qual (bx st) (aW st) (ai st) .none kV doc pm an cdv ct) ⟨[a,b,d,e],[]⟩=pure (ps.zip [a,b,d,e])):Binds K fd ps []:=
 F.binds fun kV doc pm an cdv ct us hl=>Br.PK (C:=fun us=>bindArgs (S5 x qual (bx st) (aW st) (ai st) .none kV doc pm an cdv ct) ⟨us,[]⟩=pure (ps.zip us)) (hl.trans hp) (h kV doc pm an cdv ct)
theorem Fun.qv(F:Fun K x qual st f fd)(hp:ps.length=5)(h:∀(kV doc pm:Value) (an:Option Addr) (cdv ct:Value) (a b d e g:Value),bindArgs (S5 x qual (bx st) (aW st) (ai st) .none kV doc pm an cdv ct) ⟨[a,b,d,e,g],[]⟩=pure (ps.zip [a,b,d,e,g])):Binds K fd ps []:=
 F.binds fun kV doc pm an cdv ct us hl=>Br.RM (C:=fun us=>bindArgs (S5 x qual (bx st) (aW st) (ai st) .none kV doc pm an cdv ct) ⟨us,[]⟩=pure (ps.zip us)) (hl.trans hp) (h kV doc pm an cdv ct)
end L2
namespace Dm
noncomputable def o9(a:Int):List Int->Int
 |[]=>a
 |x::r=>o9 (if x<a then x else a) r
end Dm
namespace Br
open PySem PySem.Spec PyProof.Rows L2
theorem Ec(a x:Int)(l:List Int):Dm.o9 a (l++[x])=if x<Dm.o9 a l then x else Dm.o9 a l:=by
 induction l generalizing a with
 |nil=>rfl
 |cons y l ih=>rw[TU,Dm.o9,ih,Dm.o9]
theorem wL(n0:Int)(ns:List Int):∀k,k<=ns.length->(n0::ns).getD (argBest (fun i j=>decide ((n0::ns).getD i 0<(n0::ns).getD j 0)) k) 0=Dm.o9 n0 (ns.take k)
 |0,_=>rfl
 |k+1,h=>by
  have ih:=wL n0 ns k (by omega);have e:argBest (fun i j=>decide ((n0::ns).getD i 0<(n0::ns).getD j 0)) (k+1)=if decide ((n0::ns).getD (k+1) 0<(n0::ns).getD (argBest (fun i j=>decide ((n0::ns).getD i 0<(n0::ns).getD j 0)) k) 0) then k+1 else argBest (fun i j=>decide ((n0::ns).getD i 0<(n0::ns).getD j 0)) k:=rfl
  have ek:(n0::ns).getD (k+1) 0=ns[k]'(by omega):=by rw[Tv,TZ,SI (by omega)];rfl
  rw[e,ih,ek,List.take_succ_eq_append_getElem (by omega),Ec];by_cases c:ns[k]'(by omega)<Dm.o9 n0 (ns.take k)
  ·rw[decide_eq_true c,if_pos rfl,if_pos c,ek]
  ·rw[decide_eq_false c,if_neg (by decide),if_neg c,ih]
theorem az.Mx{H0 H:Hp}{σ:L2.St}{ρ:Dm.Env}(st:az H0 H σ ρ)(j:Nat)(v:Option V):az H0 H (σ.set j v) (ρ.set j .un)/\∀a,ao (σ.set j v) (ρ.set j .un) a->ao σ ρ a:=by
 refine⟨⟨st.same,by rw[S3,S3];exact st.len,fun i d h=>?_,fun i d h=>?_,fun i i' d d' a h1 h2 h3 h4=>?_⟩,fun a ⟨i,d,h1,h2⟩=>?_⟩
 ·rcases aR h with⟨_,z⟩ | ⟨hij,h⟩
  ·cases z
  ·obtain⟨v,q,r⟩:=st.sh i d h;exact⟨v,by rw[eg (Ne.symm hij)];exact q,r⟩
 ·rcases aR h with⟨_,z⟩ | ⟨hij,h⟩
  ·cases z
  ·obtain⟨v,q,r⟩:=st.ow i d h;exact⟨v,by rw[eg (Ne.symm hij)];exact q,r⟩
 ·rcases aR h1 with⟨_,z⟩ | ⟨q1,h1⟩
  ·cases z
  rcases aR h2 with⟨_,z⟩ | ⟨q2,h2⟩
  ·cases z
  rw[eg (Ne.symm q1)]at h3;rw[eg (Ne.symm q2)]at h4;exact st.dis i i' d d' a h1 h2 h3 h4
 ·rcases aR h1 with⟨_,z⟩ | ⟨hij,h1⟩
  ·cases z
  ·rw[eg (Ne.symm hij)]at h2;exact⟨i,d,h1,h2⟩
end Br
namespace Dm
noncomputable def Ax(j:Nat):FI:=fun ρ=>match ρ[j]? with
 |some (.ow (.dct _ ds))=>some (ds,ρ.set j .un)
 |_=>none
noncomputable def BO(ks:List Int)(rows:List (List Dat))(g:Int)(d:Dat):Option (List Int×List (List Dat)):=match ks.findIdx? (· == g) with
 | some m=>(match rows[m]? with
  |some r=>if r.length<SZ then some (ks,rows.set m (r++[d])) else none
  |none=>none)
 |none=>if ks.length<SZ then some (ks++[g],rows++[[d]]) else none
end Dm
namespace Br
open PySem PySem.Spec PyProof.Rows L2
section
variable{X:Cx}{pins:List (Addr×Obj)}{σ:L2.St}{H:Hp}{s:Shared}{a:Addr}{kvs:List (Key×V)}{k:Key}{u:Value}{A:Around}{E:Value->Shared->Prop}
theorem My{z:V}{r:Value}{Q:Value->Shared->Prop}(I:Inv X pins σ H s)(e:H a=some (.dK kvs))(ry:RelV (kV k) u)(rz:RelV z r)(hl:kvs.length<sizeLine)
  (h1:∀v w' s',fP kvs k=some v->RelV v w'->Inv X pins σ H s'->Q w' s') (h2:fP kvs k=none->∀s',Inv X pins σ (upd H a (.dK (putK kvs k z))) s'->Q r s') :
  wpAny (model X.prog X.w) A (call (.builtin "dict.setdefault") [.ref a,u,r]) Q E s:=by
 obtain⟨zz,hd,vs,rel,dd⟩:=pP I.hok e;refine call_meetsIn PySem.F.slot_dict_setdefault dd.typeIs PySem.F.entry_dict_setdefault (PySem.F.args_dict_setdefault_3 _ _ _) (kt_meets_setdefault (a_ X.prog X.w) a (lV ry) hd r)
  ⟨vs,dd,by rw[<- rel.length];exact zz,fun v' hv'=>?_,fun hn h' dd' hs=>?_⟩
 ·have q:=rel.val k;rw[hv']at q;cases l:fP kvs k with
  |none=>rw[l]at q;exact q.elim
  |some v=>rw[l]at q;exact h1 v v' _ l q (I.tok _)
 ·have q:=rel.val k;rw[hn]at q;have l:fP kvs k=none:=by
   cases l:fP kvs k with
   |none=>rfl
   |some v=>rw[l]at q;exact q.elim
  have hl':(putK kvs k z).length<=sizeLine:=by have:=gk kvs k z;omega
  have he:∃q,h'.get? a=some q:=let ⟨q,_,_,hq,_⟩:=dd';⟨q,hq⟩
  exact h2 l _ (lW I (by rw[e];exact T8) hs he (pR hl' hd (rel.put k rz) dd'))
end
noncomputable def Ed(td ty tx:TE):TE:=fun σ H Q=>td σ H fun x H1=>∃a,x=.ref a/\IsD H1 a/\ty σ H1 fun y H2=>tx σ H2 fun z H3=>∃kvs k,H3 a=some (.dK kvs)/\y=kV k/\kvs.length<sizeLine /\
 (∀v,fP kvs k=some v->Q v H3)/\(fP kvs k=none->Q z (upd H3 a (.dK (putK kvs k z))))
theorem Ef{X:Cx}{o e f:Expr}{apos cpos:Pos}{td ty tx:TE}(ho:PE X o td)(he:PE X e ty)(hf:PE X f tx)(m:M2 X o "setdefault" apos e f cpos):PE X (.Call (.Attribute o "setdefault" apos) [e,f] [] cpos) (Ed td ty tx):=by
 intro pins s σ H Q I h;refine wpAny_Call_method m.base m.few m.line UB PySem.F.slot_dict_setdefault PySem.F.type_dict_setdefault (thn (ho pins s σ H _ I h) fun u s1 ⟨x,H1,I1,rx,a,ex,d,q1⟩=>?_);subst ex;obtain rfl:u=S4 a:=rx;obtain⟨t1,t2,_⟩:=pT I1 d;refine⟨t1,t2,?_⟩;rw[m.trees];refine Up rfl (UH (UC (thn (he pins s1 σ H1 _ I1 q1) fun iv s2 ⟨y,H2,I2,ry,q2⟩=>UC (thn (hf pins s2 σ H2 _ I2 q2) fun fv s3 ⟨z,H3,I3,rz,kvs,k,ea,ey,hl,q3,q4⟩=>T3 ?_))))
 subst ey;exact My I3 ea ry rz hl (fun v w' s4 l rw' I4=>⟨v,_,I4,rw',q3 v l⟩) fun l s4 I4=>⟨z,_,I4,rz,q4 l⟩
noncomputable def dh:List Int->List Addr->List (Key×V)
 |k::ks,p::ps=>(SX k,V.ref p)::dh ks ps
 |_,_=>[]
theorem gO:∀{ks:List Int} {ps:List Addr},ks.length=ps.length->(dh ks ps).map (·.1)=ks.map SX/\(dh ks ps).map (·.2)=ps.map V.ref
 |[],[],_=>⟨rfl,rfl⟩
 |k::ks,p::ps,h=>by obtain⟨a,b⟩:=gO (ks:=ks) (ps:=ps) (by simpa using h);exact⟨by rw[dh,Dk,a];rfl,by rw[dh,Dk,b];rfl⟩
 |[],_::_,h=>by cases h
 |_::_,[],h=>by cases h
theorem ua(g:Int)(q:Addr):∀{ks:List Int} {ps:List Addr},ks.length=ps.length->dh (ks++[g]) (ps++[q])=dh ks ps++[(SX g,V.ref q)]
 |[],[],_=>rfl
 |k::ks,p::ps,h=>by show _::dh (ks++[g]) (ps++[q])=_;rw[ua g q (by simpa using h)];rfl
 |[],_::_,h=>by cases h
 |_::_,[],h=>by cases h
theorem u5(g:Int):∀{ks:List Int} {ps:List Addr},ks.length=ps.length ->
  (∃m p,ks.findIdx? (· == g)=some m/\ps[m]?=some p/\fP (dh ks ps) (SX g)=some (.ref p))\/(ks.findIdx? (· == g)=none/\fP (dh ks ps) (SX g)=none/\∀v,putK (dh ks ps) (SX g) v=dh ks ps++[(SX g,v)])
 |[],[],_=>.inr ⟨rfl,rfl,fun v=>rfl⟩
 |k::ks,p::ps,h=>by
  by_cases e:k=g
  ·subst e;exact .inl ⟨0,p,by simp[Vg],rfl,by unfold dh;exact iQ rfl⟩
  ·have ne:¬(SX k:Key)=SX g:=fun z=>e (Sum.inl.inj z);rcases u5 g (ks:=ks) (ps:=ps) (by simpa using h) with⟨m,q,h1,h2,h3⟩ | ⟨h1,h2,h3⟩
   ·exact .inl ⟨m+1,q,by simp[Vg,e,h1],by simpa using h2,by unfold dh;rw[gJ ne];exact h3⟩
   ·refine .inr ⟨by simp[Vg,e,h1],by unfold dh;rw[gJ ne];exact h2,fun v=>?_⟩;have h4:=h3 v;unfold putK at h4 ⊢;unfold dh;rw[Ui,decide_eq_false ne,Bool.false_or];split at h4
    ·rename_i hy;have:=congrArg List.length h4;rw[Sx,SK]at this;simp at this
    ·rename_i hy;rw[if_neg hy]
     try rfl
 |[],_::_,h=>by cases h
 |_::_,[],h=>by cases h
theorem aU.snoc{H0 H:Hp}{p:Addr}{xs:List V}{r:List Dm.Dat}(h1:H p=Option.some (.lst xs))(h2:aH H0 xs r):∀{ps:List Addr} {rs:List (List Dm.Dat)},aU H0 H ps rs->aU H0 H (ps++[p]) (rs++[r])
 |[],[],_=>⟨⟨xs,h1,h2⟩,trivial⟩
 |_::_,_::_,h=>⟨h.1,aU.snoc h1 h2 h.2⟩
structure DGs(j:Nat)(σs:L2.St)(ρs:Dm.Env)(H0s Hs:Hp)(σ:L2.St)(ρ:Dm.Env)(H0 H:Hp)(ks:List Int)(rows:List (List Dm.Dat)):Prop where
 st:az H0 H σ ρ
 stp:Stp (ao σs ρs) H0s Hs H0 H
 own:∀a,ao σ ρ a->ao σs ρs a\/Hs a=none
 fx:σ[0]?=σs[0]?
 ex:∃(L:Addr) (ps:List Addr),σ[j]?=some (some (.ref L))/\Hs L=none/\H0 L=none/\¬ao σ ρ L/\H L=some (.dK (dh ks ps))/\(L::ps).Nodup/\(∀p∈ps,Hs p=none/\H0 p=none/\¬ao σ ρ p)/\aU H0 H ps rows/\ks.length=ps.length/\ks.length<=Dm.SZ
section
variable{j:Nat}{σs:L2.St}{ρs:Dm.Env}{H0s Hs:Hp}{σ:L2.St}{ρ ρ':Dm.Env}{H0 H H0' H':Hp}{ks:List Int}{rows:List (List Dm.Dat)}
theorem DGs.est(n:DGs j σs ρs H0s Hs σ ρ H0 H ks rows)(t:ESt σ ρ H0 H ρ' H0' H'):DGs j σs ρs H0s Hs σ ρ' H0' H' ks rows:=by
 obtain⟨L,ps,h1,h2,h3,h4,h5,h6,h7,h8,h9⟩:=n.ex;obtain⟨k1,k2,k3⟩:=t.eS h5 h3 h4;refine⟨t.st,n.stp.trans t.stp n.own,fun a z=>n.own a (t.own a z),n.fx,L,ps,h1,h2,k2,k3,k1,h6,fun p hp=>?_,h8.mono t.stp.s0 fun p hp=>?_,h9⟩
 ·obtain⟨q1,q2,q3⟩:=h7 p hp;obtain⟨o,q4⟩:=h8.some p hp;obtain⟨z1,z2,z3⟩:=t.eS q4 q2 q3;exact⟨q1,z2,z3⟩
 ·obtain⟨q1,q2,q3⟩:=h7 p hp;obtain⟨o,q4⟩:=h8.some p hp;obtain⟨z1,z2,z3⟩:=t.eS q4 q2 q3;rw[z1,q4]
theorem DGs.bind{σ':L2.St}(n:DGs j σs ρs H0s Hs σ ρ H0 H ks rows)(st:az H0 H σ' ρ')(o:∀a,ao σ' ρ' a->ao σ ρ a)(hj:σ'[j]?=σ[j]?)(h0:σ'[0]?=σ[0]?):DGs j σs ρs H0s Hs σ' ρ' H0 H ks rows:=by obtain⟨L,ps,h1,h2,h3,h4,h5,h6,h7,h8,h9⟩:=n.ex;exact⟨st,n.stp,fun a z=>n.own a (o a z),h0.trans n.fx,L,ps,hj.trans h1,h2,h3,fun z=>h4 (o L z),h5,h6,fun p hp=>⟨(h7 p hp).1,(h7 p hp).2.1,fun z=>(h7 p hp).2.2 (o p z)⟩,h8,h9⟩
theorem DGs.done(n:DGs j σs ρs H0s Hs σ ρ H0 H ks rows):∃H0',SSt σs ρs H0s Hs σ (ρ.set j (.ow (.dct ks (rows.map Dm.Dat.lst)))) H0' H:=by
 obtain⟨L,ps,h1,h2,h3,h4,h5,h6,h7,h8,h9,_⟩:=n.ex;obtain⟨n1,n2⟩:=S1.mp h6;have ss:=t7 (ps:=ps) n.st.same;have st:az (sV H0 H ps) H σ ρ:={
  same:=wJ n.st.same
  len:=n.st.len
  sh:=fun i d h=>by obtain⟨v,z,r⟩:=n.st.sh i d h;exact⟨v,z,r.mono ss⟩
  ow:=fun i d h=>by obtain⟨b,z,q,w⟩:=n.st.ow i d h;have nb:b∉ps:=fun y=>(h7 b y).2.2 ⟨i,d,h,z⟩;exact⟨b,z,by rw[fy nb];exact q,w.mono ss rfl⟩
  dis:=n.st.dis }
 obtain⟨kk,kv⟩:=gO h9;refine⟨sV H0 H ps,st.jD h1 h4 (by rw[fy n1];exact h3) ⟨_,h5,kk,by rw[kv];exact h8.reps ss fun p hp=>pF hp⟩,⟨n.stp.s0.trans ss,n.stp.s1,fun a o e=>?_,n.stp.s3⟩,fun a z=>?_,n.fx⟩
 ·by_cases q:a∈ps
  ·exact .inl (h7 a q).1
  ·rw[fy q]at e;exact n.stp.s2 a o e
 ·obtain⟨i,d,z1,z2⟩:=z;by_cases q:j=i
  ·subst q;rw[h1]at z2;cases z2;exact .inr h2
  ·rw[eg q]at z1;exact n.own a ⟨i,d,z1,z2⟩
end
theorem Inv.freeze{X:Cx}{pins:List (Addr×Obj)}{σ:L2.St}{H:Hp}{s:Shared}{a:Addr}{o:Obj}{kvs:List (Key×V)}(I:Inv X pins σ H s)(h:H a=some (.dK kvs))(ho:s.heap.get? a=some o):Inv X pins σ (upd H a (.frz o (.dK kvs))) s:=by
 have ne:∀{b:Addr},H b=none->b≠a:=fun {b} hb z=>by rw[z,h]at hb;cases hb
 refine⟨I.ok,I.os,I.bare,⟨I.base.keep,I.base.slot,fun b o' h1 h2 h3=>?_,I.base.there,fun b ys h1=>?_,fun b o' u h1=>?_,fun b ps h1=>?_⟩,I.loc,I.cell,?_,fun x c hx=>?_,fun p hp=>?_,fun b u e=>?_,I.len⟩
 ·have q:=I.base.free b o' h1 h2 h3;rw[aj (ne q)];exact q
 ·have q:=I.base.tups b ys h1;rw[aj fun z=>by rw[z,h]at q;cases q];exact q
 ·have q:=I.base.jZ b o' u h1;rw[aj fun z=>by rw[z,h]at q;cases q];exact q
 ·obtain⟨more,q⟩:=I.base.m7 b ps h1;exact⟨more,by rw[aj fun z=>by rw[z,h]at q;cases q];exact q⟩
 ·rw[aj (ne I.free)];exact I.free
 ·rw[aj (ne (I.dG x c hx))];exact I.dG x c hx
 ·obtain⟨q1,q2,q3⟩:=I.pin p hp;exact⟨q1,by rw[aj (ne q2)];exact q2,q3⟩
 ·by_cases z:b=a
  ·subst z;rw[au]at e;cases e;exact⟨ho,I.hok b _ h⟩
  ·rw[aj z]at e;exact(I.hok b u e).stay (fun c v _ q=>q) (fun c q=>by rw[aj fun z=>by rw[z,h]at q;cases q];exact q) fun c ys q=>by rw[aj fun z=>by rw[z,h]at q;cases q];exact q
noncomputable def Mz(D:Addr)(o:Obj)(kvs:List (Key×V)):It:=
 ⟨fun i H=>i<kvs.length/\H D=some (.frz o (.dK kvs)),fun i H x H'=>H'=H/\(kvs.map (·.2))[i]?=some x,fun i H=>kvs.length<=i/\H D=some (.frz o (.dK kvs))⟩
theorem u6{X:Cx}{pins:List (Addr×Obj)}{σ:L2.St}{H:Hp}{s:Shared}{D:Addr}{o:Obj}{kvs:List (Key×V)}{es ep}(hep:o.data=.dict es ep)(I:Inv X pins σ H s)(h:H D=some (.frz o (.dK kvs))) :
  ∃vs,KV kvs vs/\s.heap.DictAt (a_ X.prog X.w) D vs ep:=by
 obtain⟨hg,_,_,vs,rel,dd⟩:=(show br X.prog X.w H s.heap D (.frz o (.dK kvs)) from I.hok D _ h)
 obtain⟨ep',o',es',ho',hc',hd',r⟩:=dd.dictAt;rw[hg]at ho';cases ho';rw[hep]at hd';cases hd';exact⟨vs,rel,o,es,hg,hc',hep,r⟩
theorem PL{kvs:List (Key×V)}{vs:List (Key×Value)}(r:KV kvs vs):∀{i:Nat},i<kvs.length->∃k x u,(kvs.map (·.2))[i]?=some x/\vs[i]?=some (k,u)/\RelV x u:=by
 induction r with
 |nil=>intro i h;cases h
 |@cons p q ps qs hq t ih=>
  intro i h;cases i with
  |zero=>exact⟨q.1,p.2,q.2,rfl,rfl,hq.2⟩
  |succ i=>obtain⟨k,x,u,h1,h2,h3⟩:=ih (i:=i) (by simpa using h);exact⟨k,x,u,by simpa using h1,by simpa using h2,h3⟩
theorem BP{P:Program}{w:World}{K:gV}{tg:Expr}(D it:Addr)(o:Obj)(kvs:List (Key×V)){es ep}(hep:o.data=.dict es ep):Turn P w K tg (Mz D o kvs) [it] it (fun i h=>h.IsValIter it D i kvs.length ep) where
 mem:=by simp
 obj:=fun i h st b hb=>by
  have e:b=it:=by simpa using hb
  subst e;obtain⟨o,e,c,d⟩:=st;exact⟨o,e,fun v z=>by rw[d]at z;cases z⟩
 keep:=fun i h h' st k=>st.at fun o e=>k it (by simp) o e
 item:=by intro X hP hw hK hc i pins s σ H E I hf st hg;subst hP hw hK;obtain⟨hi,hD⟩:=hg;obtain⟨vs,rel,hm⟩:=u6 hep I hD;obtain⟨f0,f1,f2,f3,f4,f5⟩:=hf it (by simp);obtain⟨k,x,u,h1,h2,h3⟩:=PL rel hi;have hl:kvs.length=vs.length:=rel.length;rw[hl]at st;refine wpAny_pyNext_values_item st hm h2 fun h' st' sb=>?_;have I1:Inv X pins σ H { s with heap:=h' }:=I.turned (t':=s.toks) (fun b o hb e=>(sb.2 b hb).trans e) f0 f1 f3 f4 f5;obtain⟨o,e,c,d⟩:=id st';rw[<- hl]at st';exact⟨u,rfl,tE (s:={ s with heap:=h' }) e c d (by decide) ⟨x,H,I1,h3,⟨rfl,h1⟩,st',fun b hb=>(hf b hb).1⟩⟩
 done:=by intro X hP hw hK hc i pins s σ H E I hf st hg;subst hP hw hK;obtain⟨hi,hD⟩:=hg;obtain⟨vs,rel,hm⟩:=u6 hep I hD;obtain⟨f0,f1,f2,f3,f4,f5⟩:=hf it (by simp);have hl:kvs.length=vs.length:=rel.length;rw[hl]at st hi;exact wpAny_pyNext_values_end (I.ok.hd hc) st hm (Tc hi) fun h' eb=>⟨rfl,I.turned (t':=s.toks) (fun b o hb e=>eb b o hb e) f0 f1 f3 f4 f5⟩
 self:=fun _ _ _ _ _ st h=>wpAny_pyIter_valiter st h
noncomputable def iVl(j:Nat):TI:=fun σ H R=>∃D kvs,σ[j]?=some (some (.ref D))/\H D=some (.dK kvs)/\∀o,R (Mz D o kvs) (upd H D (.frz o (.dK kvs)))
section
variable{X:Cx}{tg:Expr}{x:Str}{px ap cp:Pos}{j:Nat}
theorem Ig(hi:X.N[j]?=some x)(hv:Vis X.env.scope x)(hd:(x == ("__debug__" : Str))=false)(hcd:(x == ("__classdict__" : Str))=false)(hbase:attributeBase (.Name x px) "values" X.env (eval (.Name x px) X.env)=eval (.Name x px) X.env)(hline:(ap.endLine == cp.line)=true) :
  PI X tg (.Call (.Attribute (.Name x px) "values" ap) [] [] cp) (iVl j):=by
 intro pins s σ H R I h;obtain⟨D,kvs,hσ,hD,k⟩:=h;refine wpAny_Call_method0_late hbase hline (thn (fG hi hv hd hcd pins s σ H (fun v H'=>v=.ref D/\H'=H) I ⟨_,hσ,rfl,rfl⟩) fun v s1 ⟨y,H1,I1,r1,q1,q2⟩=>?_);subst q1 q2;obtain rfl:v=S4 D:=r1;obtain⟨t1,t2,hs⟩:=pT I1 (.inl ⟨_,.inl hD⟩);refine⟨"dict","dict.values",UB,PySem.F.slot_dict_values,PySem.F.type_dict_values,t1,t2,Up rfl (PySem.evalArgs_none ?_)⟩;obtain⟨zz,hsm,vs,rel,dd⟩:=pP I1.hok hD;refine call_meetsIn PySem.F.slot_dict_values dd.typeIs PySem.F.entry_dict_values (PySem.F.args_dict_values_1 _) (meets_dict_values (a_ X.prog X.w) D hs) ⟨⟨vs,dd⟩,?_⟩;obtain⟨ep,o,es,ho,hc,hdt,r⟩:=dd.dictAt;have I2:Inv X pins σ H1 { s1 with heap:=s1.heap.push { cls:=.type "dict_values",data:=.fields #[.ref D] } }:=I1.kept (t':=s1.toks) fun b o e=>PU _ e;have ho2:(s1.heap.push { cls:=.type "dict_values",data:=.fields #[.ref D] }).get? D=some o:=PU _ ho;refine wpAny_pyIter_values (knd:=a_ X.prog X.w) (kvs:=vs) (ep:=ep) ⟨_,SY _ rfl,rfl,rfl⟩ ⟨o,es,ho2,hc,hdt,r⟩ ?_;have hl:kvs.length=vs.length:=rel.length;have I3:=I2.kept (t':=s1.toks) (h':=(s1.heap.push { cls:=.type "dict_values",data:=.fields #[.ref D] }).push { cls:=.type "dict_valueiterator",data:=.fields #[.ref D,.int 0 0,.int vs.length 0,.int ep 0] }) fun b o e=>PU _ e;refine⟨_,[(s1.heap.push { cls:=.type "dict_values",data:=.fields #[.ref D] }).objs.size],_,_,_,rfl,Inv.freeze I3 hD (PU _ ho2),BP D _ o kvs hdt,?_,fun b hb=>?_,k o⟩
 ·exact⟨_,SY _ rfl,rfl,by rw[hl];rfl⟩
 ·have e:b=(s1.heap.push { cls:=.type "dict_values",data:=.fields #[.ref D] }).objs.size:=by simpa using hb
  subst e;have hn:=I2.hok.fresh (Sz (s1.heap.push { cls:=.type "dict_values",data:=.fields #[.ref D] }).objs.size);exact I2.vP (Sz _) (by rw[aj fun z=>by rw[z,hD]at hn;cases hn];exact hn)
theorem Ih{σ:L2.St}{H:Hp}{R:It->Hp->Prop}(h:tDI (Dm.Ax j) σ H R):iVl j σ H R:=by
 obtain⟨H0,ρ,ys,ρ',st,e,k⟩:=h;unfold Dm.Ax at e;split at e
 case h_2=>cases e
 rename_i ks ds hj;cases e;obtain⟨D,hσ,n0,kvs,hD,ek,rs⟩:=st.ow j _ hj;refine⟨D,kvs,hσ,hD,fun o=>?_⟩;have ow:ao σ ρ D:=⟨j,_,hj,hσ⟩
 have no:¬ao σ (ρ.set j .un) D:=fun z=>by obtain⟨i,d2,hij,z1,z2⟩:=cP z;exact hij (st.dis i j d2 _ D z1 hj z2 hσ)
 have st1:az H0 (upd H D (.frz o (.dK kvs))) σ (ρ.set j .un):=(st.mask j).aside n0 no;have ss:av H0 (shr H0 (upd H D (.frz o (.dK kvs))) D):=iU n0;have st2:az (shr H0 (upd H D (.frz o (.dK kvs))) D) (upd H D (.frz o (.dK kvs))) σ (ρ.set j .un):={
  same:=uN st1.same
  len:=st1.len
  sh:=fun i d h=>by obtain⟨v,z,r⟩:=st1.sh i d h;exact⟨v,z,r.mono ss⟩
  ow:=fun i d h=>by obtain⟨b,z,q,w⟩:=st1.ow i d h;have nb:b≠D:=fun y=>no ⟨i,d,h,y▸z⟩;exact⟨b,z,by rw[gU nb];exact q,w.mono ss rfl⟩
  dis:=st1.dis }
 refine k (Mz D o kvs) (shr H0 (upd H D (.frz o (.dK kvs))) D) (upd H D (.frz o (.dK kvs))) ⟨st2,⟨ss,fun a u e n=>?_,fun a u e=>?_,fun a u e=>?_⟩,fun a z=>?_,fun i z=>trivial⟩ fun Ha Hb s1 s2=>?_
 ·rw[aj fun z:a=D=>n (z▸ow)];exact e
 ·by_cases z:a=D
  ·subst z;exact .inr (.inr ow)
  ·rw[gU z]at e;exact .inr (.inl e)
 ·by_cases z:a=D
  ·subst z;exact⟨_,au⟩
  ·exact⟨u,by rw[aj z];exact e⟩
 ·obtain⟨i,d2,_,z1,z2⟩:=cP z;exact⟨i,d2,z1,z2⟩
 ·have hf:Ha D=some (.frz o (.dK kvs)):=s1 _ _ (by rw[fW];exact au);have hl:kvs.length=ys.length:=by rw[<- Sx (f:=(·.2)),rs.length]
  refine⟨fun i hi=>⟨by rw[hl];exact hi,s2 _ _ hf⟩,fun i d hd=>⟨⟨by rw[hl];exact(Sw.mp hd).1,s2 _ _ hf⟩,fun y H2 hy=>?_⟩⟩;obtain⟨rfl,hy⟩:=hy;obtain⟨v,hv,rv⟩:=rs.get hd;rw[hy]at hv;cases hv;exact⟨Ha,aQ.refl s2,rv.mono (ss.trans s1)⟩
theorem MA(j:Nat)(hi:X.N[j]?=some x:=by rfl)(hv:Vis X.env.scope x:=by trivial)(hd:(x == ("__debug__" : Str))=false:=by decide)(hcd:(x == ("__classdict__" : Str))=false:=by decide)
  (hbase:attributeBase (.Name x px) "values" X.env (eval (.Name x px) X.env)=eval (.Name x px) X.env:=by rfl) (hline:(ap.endLine == cp.line)=true:=by rfl):DI X tg (.Call (.Attribute (.Name x px) "values" ap) [] [] cp) (Dm.Ax j):=
 PI.weak (Ig hi hv hd hcd hbase hline) fun _ _ _=>Ih
end
end Br
namespace Dm
noncomputable def wM:Dat->Dat->Option RV
 |.tup xs,.tup (y::ys)=>if xs.length+(y::ys).length<=SZ then some (.val (.tup (xs++(y::ys)))) else none
 |_,_=>none
end Dm
namespace Br
open PySem PySem.Spec PyProof.Rows L2
noncomputable def JQ:R2:=fun x y H Q=>∃l b xs zs,x=.ref l/\y=.ref b/\H l=some (.tup xs)/\H b=some (.tup zs)/\zs≠[]/\xs.length+zs.length<=sizeLine/\(xs=[]->Q (.ref b) H)/\(xs≠[]->∀p,H p=none->Q (.ref p) (upd H p (.tup (xs++zs))))
theorem Ii{X:Cx}:OpR X (binaryOp .Add) JQ:=by
 intro pins s σ H x y v u Q I rx ry h;obtain⟨l,b,xs,zs,rfl,rfl,hH,hB,n2,hz,q0,q⟩:=h;cases rx;cases ry;obtain⟨z1,its,r1,⟨⟨cls,dd,data,sl⟩,ho,hc,n,hd⟩⟩:=(show br X.prog X.w H s.heap l (.tup xs) from I.hok l _ hH)
 obtain⟨z2,its2,r2,⟨⟨Sn,dd2,data2,sl2⟩,ho2,hc2,n',hd2⟩⟩:=(show br X.prog X.w H s.heap b (.tup zs) from I.hok b _ hB)
 simp only at hc hd hc2 hd2;subst hc hd hc2 hd2;have e:its.toArray++its2.toArray=(its++its2).toArray:=by simp
 have hl:=r1.length;have hl2:=r2.length;have m2:its2≠[]:=fun y=>n2 (UX.mp (by rw[hl2,y];rfl));by_cases n1:xs=[]
 ·have m1:its=[]:=UX.mp (by rw[<- hl,n1];rfl);exact concat_meets ⟨_,ho,rfl⟩ ⟨_,ho2,rfl⟩ noFill_tuple_add seq_tuple_add PySem.F.slot_tuple_add PySem.F.entry_tuple_add (PySem.F.args_tuple_add_2 _ _)
   (tuple_addW0 l b its.toArray its2.toArray n n' dd dd2 sl sl2 (by simp[m1])) ⟨ho,ho2,.ref b,H,I,rfl,q0 n1⟩
 ·have m1:its≠[]:=fun y=>n1 (UX.mp (by rw[hl,y];rfl));refine concat_meets ⟨_,ho,rfl⟩ ⟨_,ho2,rfl⟩ noFill_tuple_add seq_tuple_add PySem.F.slot_tuple_add PySem.F.entry_tuple_add (PySem.F.args_tuple_add_2 _ _)
   (tuple_addW2 l b its.toArray its2.toArray n n' dd dd2 sl sl2 (by simpa using m1) (by simpa using m2) (by rw[SE,SE];omega)) ⟨ho,ho2,?_⟩
  rw[e];refine⟨.ref _,_,I.laid (t':=s.toks) (fun _ _ q=>PU _ q) (Sz _) (show br X.prog X.w _ _ _ (.tup (xs++zs)) from ⟨by rw[SK];exact hz,its++its2,r1.append r2,⟨_,SY _ rfl,rfl,0,rfl⟩⟩),rfl,q n1 _ I.fresh⟩
theorem Ij:OpD JQ Dm.wM:=by
 intro H0 H x y dx dy z Q s rx ry e k;unfold Dm.wM at e;split at e
 ·rename_i xs y1 ys;split at e
  case isFalse=>cases e
  rename_i hz;cases e;have r0:Rep H0 y (.tup (y1::ys)):=by
   rcases ry with r | ⟨a,_,w⟩
   ·exact r
   ·exact SQ w
  obtain⟨a,us,rfl,qa,ra⟩:=gM s rx;obtain⟨b,ws,rfl,qb,rb⟩:=gM s ry;have la:=ra.length;have lb:=rb.length;refine⟨a,b,us,ws,rfl,rfl,qa,qb,fun q=>(by rw[q]at lb;cases lb),by rw[la,lb];exact lZ hz,fun q=>?_,fun _ p hp=>?_⟩
  ·subst q;cases ra;exact k _ _ _ (aQ.refl s) r0
  ·have g:=aQ.Bv (o:=.tup (us++ws)) s hp;exact k _ _ _ g (.tup au ((ra.append rb).mono g.s0))
 ·cases e
section
variable{X:Cx}{pos:Pos}
theorem MB{a b:Expr}{fa fb:Dm.FE}(ha:DE X a fa)(hb:DE X b fb):DE X (.BinOp a .Add b pos) (Dm.e2 Dm.wM fa fb):=wg Ii Ij ha hb
end
open PySem L2
structure bW(K:gV)(x:Str)(st:Stmt)(a:Addr)(fd:FuncData):Prop where
 e:S2 K mainGlobals x=some (some (.ref a))
 F:Fun K x x st a fd
variable{K:gV}{x:Str}{st:Stmt}{a:Addr}{fd:FuncData}{hp:Heap}{mg:Str->Option Value}
theorem aL{oc:Value}{od an:Option Addr}{osl:Array (Option Value)}{kV doc pm cdv ct:Value}(e:S2 K mainGlobals x=some (some (.ref a)))
  (l:K.lookup a=some ⟨oc,od,.func (S5 x x (bx st) (aW st) (ai st) .none kV doc pm an cdv ct),osl⟩) (c:Uv K cdv x=true) (k:Tw K (.ref a)=true) :
  bW K x st a (S5 x x (bx st) (aW st) (ai st) .none kV doc pm an cdv ct):=⟨e,Lv l c k⟩
theorem mgo{v:Value}(X:K.In hp)(G:hp.Ns mainGlobals mg)(e:S2 K mainGlobals x=some (some v)):mg x=some v:=PySem.W.mg_of X G e
theorem mno(X:K.In hp)(G:hp.Ns mainGlobals mg)(e:S2 K mainGlobals x=some none):mg x=none:=PySem.W.mg_none_of X G e
theorem bW.m(h:bW K x st a fd)(X:K.In hp)(G:hp.Ns mainGlobals mg):mg x=some (.ref a):=PySem.W.mg_of X G h.e
theorem bW.RN{y:Str}(h:bW K x st a fd)(hb:∀(kV doc pm:Value) (an:Option Addr) (cdv ct v:Value),bindArgs (S5 x x (bx st) (aW st) (ai st) .none kV doc pm an cdv ct) ⟨[v],[]⟩=pure [(y,v)])(s:Shared)(v:Value):BindsTo s fd ⟨[v],[]⟩ [(y,v)]:=by obtain⟨oc,od,kV,doc,pm,an,cdv,ct,osl,rfl,lk,hcd⟩:=h.F.ex;exact .of_eq (hb kV doc pm an cdv ct v)
theorem hm{j k:Nat}{A:Around}(r:b5 k A)(h:j<=k:=by decide):b5 j A:=r.mono h
theorem fsc{N P:List Str}{sc:Scope}(h1:sc.kind=.function)(h2:sc.isCoroutine=false)(h3:sc.isGenerator=false)(h4:N.take P.length=P)(h:N.Nodup/\(∀x∈P,sc.names.lookup x=some .local\/sc.names.lookup x=some .cell)/\∀y∈sc.names,y.2≠.free):aA N P sc:=⟨h1,h2,h3,h.1,h4,h.2.1,h.2.2⟩
end Br
namespace Dm
noncomputable def sW(s:FS)(R:Env->Option Env)(ρ:Env):Option Env:=match s ρ with
 |some (.nx ρ1)=>R ρ1
 |_=>none
noncomputable def sUn(f g:FS):FS:=fun ρ=>match f ρ with
 |some x=>some x
 |none=>g ρ
noncomputable def jS(R:Env->Option Env)(C ie:Nat)(h:FS):FS:=fun ρ=>match R ρ with
 |none=>none
 |some ρ1=>if ie=0 then none else match h (ρ1.set ie (.sh (.exc C))) with
  |some (.nx ρ')=>some (.nx (ρ'.set ie .un))
  |some (.ret r ρ')=>some (.ret r (ρ'.set ie .un))
  |_=>none
noncomputable def nC:List Nat->List Bool->Nat->Option Bool
 |C::cs,b::bs,D=>if D=C then some b else nC cs bs D
 |_,_,_=>none
noncomputable def cA(cs:List Nat)(bs:List Bool):Dat->Option RV
 |.exc C=>(nC cs bs C).bind vB
 |_=>none
end Dm
namespace Br
open PySem PySem.Spec PyProof.Rows L2
section
variable{X:Cx}{C:Addr}{E:L2.St->XK}{R S:Dm.Env->Option Dm.Env}{sts rest:List Stmt}{st:Stmt}
theorem MC{f g:Dm.FS}(h1:DS X st f)(h2:DS X st g):DS X st (Dm.sUn f g):=fun pins s σ H D I q=>by
 obtain⟨H0,ρ,o,rs,e,k⟩:=q;unfold Dm.sUn at e;split at e
 ·rename_i y hy;exact h1 pins s σ H D I ⟨H0,ρ,o,rs,hy.trans e,k⟩
 ·exact h2 pins s σ H D I ⟨H0,ρ,o,rs,e,k⟩
noncomputable def tY(C:Addr)(E:L2.St->XK)(R:Dm.Env->Option Dm.Env)(σ:L2.St)(H:Hp):Prop:=∃H0 ρ ρ',az H0 H σ ρ/\R ρ=some ρ'/\∀σ' a H0' H',SSt σ ρ H0 H σ' ρ' H0' H'->E σ' (.ref C) (some a) H'
noncomputable abbrev YS(X:Cx)(C:Addr)(E:L2.St->XK)(st:Stmt)(R:Dm.Env->Option Dm.Env):Prop:=PS X st (fun _ σ H=>tY C E R σ H)
noncomputable abbrev YB(X:Cx)(C:Addr)(E:L2.St->XK)(sts:List Stmt)(R:Dm.Env->Option Dm.Env):Prop:=PSs X sts (fun _ σ H=>tY C E R σ H)
theorem tY.x{σ:L2.St}{H:Hp}(h:tY C E R σ H):tX C E R σ H:=by obtain⟨H0,ρ,ρ',st,e,k⟩:=h;exact⟨H0,ρ,ρ',st,e,fun a H0' H' t=>k σ a H0' H' t.sst⟩
theorem y_x(h:XS X C E st R):YS X C E st R:=PS.weak h fun _ _ _ q=>q.x
theorem cu(h:YS X C E st R):YB X C E (st::rest) R:=by have:=DU (rest:=rest) h;exact fun pins s σ H D I q=>this pins s σ H D I q
theorem JR{s:Dm.FS}(h1:DS X st s)(h2:YB X C E rest R):YB X C E (st::rest) (Dm.sW s R):=PSs.weak (fk h1 h2) fun D σ H q=>by
 obtain⟨H0,ρ,ρ',rs,e,k⟩:=q;unfold Dm.sW at e;split at e
 case h_2=>cases e
 rename_i ρ1 hs;exact⟨H0,ρ,_,rs,hs,fun σ' H0' H' t=>⟨H0',ρ1,ρ',t.st,e,fun σ'' a p6 H'' u=>k σ'' a p6 H'' (t.trans u)⟩⟩
theorem PM{σ:L2.St}{H:Hp}{t:Dm.FT}(h:tY C E (Dm.rIf t R S) σ H):tDT t σ H fun b H1=>if b=true then tY C E R σ H1 else tY C E S σ H1:=by
 obtain⟨H0,ρ,ρ',rs,e,k⟩:=h;unfold Dm.rIf at e;split at e
 ·cases e
 ·rename_i ρ1 ht;exact⟨H0,ρ,true,ρ1,rs,ht,fun H0' H' u=>by show (if true=true then _ else _);rw[if_pos rfl];exact⟨H0',ρ1,ρ',u.st,e,fun σ'' a p6 H'' w=>k σ'' a p6 H'' (u.sst.trans w)⟩⟩
 ·rename_i ρ1 ht;exact⟨H0,ρ,false,ρ1,rs,ht,fun H0' H' u=>by show (if false=true then _ else _);rw[if_neg (by decide)];exact⟨H0',ρ1,ρ',u.st,e,fun σ'' a p6 H'' w=>k σ'' a p6 H'' (u.sst.trans w)⟩⟩
theorem u7{c:Expr}{a b:List Stmt}{t:Dm.FT}{pos:Pos}(hc:DT X c t)(ha:YB X C E a R)(hb:YB X C E b S):YS X C E (.If c a b pos) (Dm.rIf t R S):=PS.weak (Cr hc ha hb) fun _ _ _ q=>PM q
theorem Eg:YB X C E sts Dm.rNo:=fun pins s σ H D I h=>by obtain⟨_,_,_,_,e,_⟩:=h;cases e
end
theorem MD{X:Cx}{body:List Stmt}{h0:ExceptHandler}{hs:List ExceptHandler}{q:Dm.FS}{pos:Pos}(hb:∀(pn:List (Addr×Obj)) (xe:Value->Shared->Prop),DSs (Cx.in' X pn xe) body q):DS X (.Try body (h0::hs) [] [] pos) q:=by
 intro pins s σ H D I hq;refine wpAny_Try_except ?_;refine wpAny_mono (hb pins _ [] s σ H D (DZ I) hq) (fun f s1 z=>?_) fun _ _ z=>z;cases f with
 |next=>obtain⟨σ',H',J,k⟩:=z;exact wpAny_execs_nil ⟨σ',H',jG J,k⟩
 |ret v=>obtain⟨u,σ',H',J,r,k⟩:=z;exact⟨u,σ',H',jG J,r,k⟩
 |brk=>obtain⟨σ',H',J,k⟩:=z;exact⟨σ',H',jG J,k⟩
 |cont=>obtain⟨σ',H',J,k⟩:=z;exact⟨σ',H',jG J,k⟩
section
variable{X:Cx}{pins pn:List (Addr×Obj)}{σ:L2.St}{H:Hp}{s:Shared}{xe:Value->Shared->Prop}
theorem zf{x n:Str}{np hpos pos:Pos}{body suite:List Stmt}{b₀:Stmt}{R:Dm.Env->Option Dm.Env}{h:Dm.FS}{C CP:Addr}{ie:Nat}
  (hst:X.stack=X.env::X.outer) (hfr:X.env.frame=some X.env.locals) (hex:X.ex=[]) (hN:X.N.Nodup) (hi:X.N[ie]?=some n) (hk:X.env.kindOf n=some .local) (hg:Gl X x) (hm:X.mg x=some (.ref CP)) (Z:PySem.W.l_ X.K C CP)
  (hb:∀(pn:List (Addr×Obj)) (xe:Value->Shared->Prop) (E:L2.St->XK),wC C (Cx.in' X pn xe) E->YB (Cx.in' X pn xe) C E body R)
  (hh:∀(A':Around) (xe:Value->Shared->Prop),DSs (Cx.sub' X A' xe) (b₀::suite) h) (hdb:(x == ("__debug__" : Str))=false:=by decide) :
  DS X (.Try body [.ExceptHandler (some (.Name x np)) (some n) (b₀::suite) hpos] [] [] pos) (Dm.jS R C ie h):=by
 intro pins s σ H D I hq;obtain⟨H0,ρ,o,st,e,ok⟩:=hq;unfold Dm.jS at e;split at e
 ·cases e
 rename_i ρ1 hR;split at e
 ·cases e
 rename_i h0;refine wpAny_Try_except ?_;refine wpAny_mono (hb pins (fun e s₁=>wpAny (model X.prog X.w) X.A (noteFrame e X.env) (fun _ s₂=>wpAny (model X.prog X.w) X.A (setFlight e none) (fun _ s₃=>wpAny (model X.prog X.w) X.A (handleBy e X.env [.ExceptHandler (some (.Name x np)) (some n) (b₀::suite) hpos]) (SP X pins D) X.xe s₃) X.xe s₂) X.xe s₁)
  (fun σ' _ _ H'=>∃H0',SSt σ ρ H0 H σ' ρ1 H0' H') ?pass [] s σ H DF (DZ I) ⟨H0,ρ,ρ1,st,hR,fun σ' a H0' H' t=>⟨H0',t⟩⟩) ?q fun _ _ z=>z
 case q=>
  intro f s1 z;cases f with
  |next=>obtain⟨_,_,_,q⟩:=z;exact SQ q
  |ret v=>obtain⟨_,_,_,_,_,q⟩:=z;exact SQ q
  |brk=>obtain⟨_,_,_,q⟩:=z;exact SQ q
  |cont=>obtain⟨_,_,_,q⟩:=z;exact SQ q
 case pass=>
  intro Sh σ1 H1 s1 e s' I1 hq;obtain⟨ea,a0,B,H',rfl,os,bare,un,hok,fl,hB,H0',t1⟩:=hq;obtain⟨hh',g,d,t,os'⟩:=s';obtain rfl:os'=s1.os:=os;have J:Inv X pins σ1 H' ⟨hh',g,d,t,s1.os⟩:=jG (I1.call (h':=hh') (g':=g) (d':=d) (t':=t) (ch:=[]) un hok bare (fun b z=>absurd z (by simp)));have J1:Inv X pins σ1 H1 s1:=jG I1;have ME:∀b o,X.s₀.heap.get? b=some o->∃o1,s1.heap.get? b=some o1:=fun b o e=>J1.base.there b o e (by rw[hex];exact fun z=>nomatch z);have hB':∀b o,hh'.get? b=some o->b∉frs X.stack->((X.s₀.heap.get? b).isSome=true\/(H' b).isSome=true\/∃p∈X.pn++pins,p.1=b)->B.get? b=some o:=fun b o e nb hc=>by
   refine hB b o e ?_ nb;rcases hc with hc | hc | ⟨p,hp,rfl⟩
   ·obtain⟨o0,e0⟩:=Th.mp hc;obtain⟨o1,e1⟩:=ME b o0 e0;exact .inl (by rw[e1];rfl)
   ·exact .inr hc
   ·exact .inl (by rw[(J1.pin p hp).1];rfl)
  have hfs:X.A.frames=some (X.env::X.outer):=by rw[J.ok.frames,hst]
  have fl':Heap.FlyingW B (X.env::X.outer) ea (.ref C) a0 hh':=by rw[<- hst];exact fl
  show wpAny (model X.prog X.w) X.A (noteFrame (.ref ea) X.env) _ _ _;refine wpAny_looks_onW (base:=B) (L:=X.env.locals) hfs hfr fl' fun h4 held sl4=>?_;refine wpAny_landsW held fun h5 fl5 sl5=>?_;have J5:Inv X pins σ1 H' ⟨h5,g,d,t,s1.os⟩:=J.fly (t':=t) hex hB' fl5.1 (sl4.trans sl5);obtain⟨oe,vs,he,hc,hd,_⟩:=fl'.first
  have neF:ea∉frs X.stack:=fun z=>by rw[hst]at z;obtain⟨_,o',ho',hd'⟩:=fl'.2.2.1.mem z;rw[he]at ho';cases ho';exact hd' vs hd
  have noB:B.get? ea=none:=fl'.2.1;have nH:H' ea=none:=by
   cases q:H' ea with
   |none=>rfl
   |some u=>have:=hB' ea oe he neF (.inr (.inl (by rw[q];rfl)));rw[noB]at this;cases this
  have n0:X.s₀.heap.get? ea=none:=by
   cases q:X.s₀.heap.get? ea with
   |none=>rfl
   |some u=>have:=hB' ea oe he neF (.inl (by rw[q];rfl));rw[noB]at this;cases this
  have nl:ea≠X.env.locals:=fun z=>by obtain⟨m,⟨o,es,ep,ho,hd',_⟩,_⟩:=J.loc;rw[<- z,he]at ho;cases ho;rw[hd]at hd';cases hd'
  have nc:∀y c,X.env.cells.lookup y=some c->c≠ea:=fun y c e z=>by obtain⟨v,o,ho,hd'⟩:=J.cell y c e;rw[z,he]at ho;cases ho;rw[hd]at hd';cases hd'
  have np:∀p∈X.pn++pins,p.1≠ea:=fun p hp z=>by have:=hB' ea oe he neF (.inr (.inr ⟨p,hp,z⟩));rw[noB]at this;cases this
  have hB5:∀b o,h5.get? b=some o->b∉frs X.stack->((X.s₀.heap.get? b).isSome=true\/(H' b).isSome=true\/∃p∈X.pn++pins,p.1=b)->B.get? b=some o:=fun b o e nb hcd=>by
   have:∃o',hh'.get? b=some o':=by
    rcases hcd with hc | hc | ⟨p,hp,rfl⟩
    ·obtain⟨o0,e0⟩:=Th.mp hc;exact J.base.there b o0 e0 (by rw[hex];exact fun z=>nomatch z)
    ·obtain⟨u,e0⟩:=Th.mp hc;exact(J.hok b u e0).there
    ·exact⟨_,(J.pin p hp).1⟩
   obtain⟨o',e'⟩:=this;have q:=hB' b o' e' nb hcd;have q2:=fl5.1 b o' q;rw[e]at q2;cases q2;exact q
  obtain⟨oe5,he5,hc5⟩:=fl5.there;refine wpAny_handleBy_cons (codeAny_handlers_test ?_) (by intro q;cases q);refine jA (X:=Cx.sub' X (X.A.mark (some (.ref ea))) X.xe) (Ar rfl J5) hg hm ?_ hdb;refine PySem.W.wF Z J5.kIn ⟨oe5,he5,hc5⟩ ?_;refine codeAny_handlers_suite_as ?_;refine lands_againW fl5 fun h6 fl6 sl6=>?_;have J6:Inv X pins σ1 H' ⟨h6,g,d,t,s1.os⟩:=J5.fly (t':=t) hex hB5 fl6.1 sl6;obtain⟨oe6,he6,hc6⟩:=fl6.there;have J7:=J6.Po (o:=φX ea C) nH (φX_ok he6 hc6) n0 nl nc np;refine m8 J7 hN hi (.inl hk) (v:=.ref ea) rfl (fun s8 J8 _=>?_) (.inr hk);have t12:SSt σ ρ H0 H σ1 ρ1 (upd H0' ea (φX ea C)) (upd H' ea (φX ea C)):=t1.trans (ESt.grow t1.st (aQ.Bv t1.st.same nH)).sst;have rep:Rep (upd H0' ea (φX ea C)) (V.ref ea) (.exc C):=.exc au;have Ik:SSt σ1 ρ1 (upd H0' ea (φX ea C)) (upd H' ea (φX ea C)) (σ1.set ie (some (.ref ea))) (ρ1.set ie (.sh (.exc C))) (upd H0' ea (φX ea C)) (upd H' ea (φX ea C)):=
   ⟨t12.st.uP rep,Stp.refl _ _ _,fun a z=>.inl (fQ z),eg h0⟩
  have fin:∀(oh:Dm.Out),h (ρ1.set ie (.sh (.exc C)))=some oh->(∀(D':Ends),(∀σ' H3,(∃ρ' H03,oh=.nx ρ'/\SSt (σ1.set ie (some (.ref ea))) (ρ1.set ie (.sh (.exc C))) (upd H0' ea (φX ea C)) (upd H' ea (φX ea C)) σ' ρ' H03 H3)->D'.nx σ' H3)->(∀v H3,(∃z ρ' σ' H03,oh=.ret z ρ'/\SSt (σ1.set ie (some (.ref ea))) (ρ1.set ie (.sh (.exc C))) (upd H0' ea (φX ea C)) (upd H' ea (φX ea C)) σ' ρ' H03 H3/\C3 (σ1.set ie (some (.ref ea))) (ρ1.set ie (.sh (.exc C))) (upd H' ea (φX ea C)) H03 H3 v z/\∀d a,z=.new d->v=.ref a->¬ao σ' ρ' a)->D'.rt v H3)->(∀ρ',oh≠.bk ρ')->(∀ρ',oh≠.ct ρ')->pY D' (σ1.set ie (some (.ref ea))) (ρ1.set ie (.sh (.exc C))) (upd H0' ea (φX ea C)) (upd H' ea (φX ea C)) oh):=fun oh _ D' hn hr hb hc=>by
   cases oh with
   |nx ρ'=>exact fun σ' H03 H3 tt=>hn σ' H3 ⟨ρ',H03,rfl,tt⟩
   |bk ρ'=>exact absurd rfl (hb ρ')
   |ct ρ'=>exact absurd rfl (hc ρ')
   |ret z ρ'=>exact fun σ' v H03 H3 tt rr no=>hr v H3 ⟨z,ρ',σ',H03,rfl,tt,rr,no⟩
  cases hoh:h (ρ1.set ie (.sh (.exc C))) with
  |none=>rw[hoh]at e;cases e
  |some oh=>
  rw[hoh]at e;have nb:∀ρ',oh≠.bk ρ':=fun ρ' z=>by rw[z]at e;cases e
  have nc':∀ρ',oh≠.ct ρ':=fun ρ' z=>by rw[z]at e;cases e
  refine wpAny_mono (hh (X.A.mark (some (.ref ea))) _ pins s8 _ _ { nx:=fun σ' H3=>∃ ρ' H03,oh=.nx ρ'∧SSt (σ1.set ie (some (.ref ea))) (ρ1.set ie (.sh (.exc C))) (upd H0' ea (φX ea C)) (upd H' ea (φX ea C)) σ' ρ' H03 H3,rt:=fun v H3=>∃ z ρ' σ' H03,oh=.ret z ρ'∧SSt (σ1.set ie (some (.ref ea))) (ρ1.set ie (.sh (.exc C))) (upd H0' ea (φX ea C)) (upd H' ea (φX ea C)) σ' ρ' H03 H3∧C3 (σ1.set ie (some (.ref ea))) (ρ1.set ie (.sh (.exc C))) (upd H' ea (φX ea C)) H03 H3 v z∧∀ d a,z=.new d→v=.ref a→¬ ao σ' ρ' a,bk:=fun _ _=>False,ct:=fun _ _=>False } (Ar rfl J8)
   ⟨_,_,_,Ik.st,hoh,fin oh hoh _ (fun _ _ z=>z) (fun _ _ z=>z) nb nc'⟩) (fun f s4 z=>?_) fun _ _ z=>z
  cases f with
  |next=>obtain⟨σ',H3,I4,ρ',H03,rfl,tt⟩:=z;cases e;refine name_goes (tW J.ok I4) hN hi hk fun s9 J9=>?_;exact⟨σ'.set ie none,H3,J9,ok _ _ _ (t12.trans (Ik.trans (tt.trans (SSt.drop tt.st h0))))⟩
  |ret v=>
   obtain⟨u,σ0,H3,I4,rl,z,ρ',σ',H03,rfl,tt,rr,no⟩:=z;cases e;refine name_goes (tW J.ok I4) hN hi hk fun s9 J9=>?_;refine⟨u,σ0.set ie none,H3,J9,rl,ok _ _ _ _ (t12.trans (Ik.trans (tt.trans (SSt.drop tt.st h0)))) ?_ ?_⟩
   ·cases z with
    |val d=>exact rr
    |new d=>
     obtain⟨a,ea',n,n0',w⟩:=rr;refine⟨a,ea',?_,n0',w⟩;have tp:=t12.trans Ik;rcases n with n | n
     ·exact .inl (tp.stp.gone n)
     ·exact(tp.own a n).symm
   ·intro d a hz hv ho;obtain⟨j,d',h1,h2⟩:=ho;refine no d a hz hv ?_;by_cases hj:ie=j
    ·subst hj;rw[Uu]at h1;simp only[if_true]at h1;split at h1<;>cases h1
    ·rw[eg hj]at h1 h2;exact⟨j,d',h1,h2⟩
  |brk=>obtain⟨_,_,_,q⟩:=z;exact SQ q
  |cont=>obtain⟨_,_,_,q⟩:=z;exact SQ q
end
section
variable{X:Cx}{C:Addr}{E:L2.St->XK}{k:Nat}{F:Addr}{fd:FuncData}{ps:List Str}{x:Str}{p pos:Pos}{e:Expr}{es:List Expr}{fs:List Dm.FE}{bad:List Dm.Dat->Bool}{c:Int}{tk:Tok}
theorem Il{vs:List V}{H:Hp}{Q:VK}{E:XK}(h:spX C (fun ds=>bad (ds++[.int c])) vs H Q E):spX C bad (vs++[.int c]) H Q E:=by obtain⟨H0,ds,s,r,e,k⟩:=h;exact⟨H0,ds++[.int c],s,r.append (.cons (.int _) .nil),e,k⟩
theorem Ay(G:aV X.prog X.w X.K X.mg X.base (CXE X.prog X.w C) k F fd ps (spX C bad))(hr:b5 k X.A)(hg:Gl X x)(hm:X.mg x=some (.ref F))(hk:Tw X.K (.ref F)=true)(hb:Binds X.K fd ps [.int c tk])(hx:wC C X E)
  (ha:DA X (e::es) fs) (hdb:(x == ("__debug__" : Str))=false:=by decide) (he:starEach (e::es) X.env=(false,eval e X.env)::starEach es X.env:=by rfl) (hpl:(backTo pos (starEach es X.env)).any (·.1)=false:=by rfl) :
  XE X C E (.Call (.Name x p) (e::es) [] pos) (Dm.bA (fun ds=>bad (ds++[.int c])) fs):=by
 intro pins s σ H Q I h;refine wpAny_Call_Name_kw (jA I hg hm ?_ hdb);refine Ve (h₀:=X.base) I.ok.mod.kin hk (thn (ha pos pins s σ H _ I (Aq h Q)) fun us s1 ⟨vs,H1,I1,r,q⟩=>⟨I1.kIn,?_⟩) he hpl;have q':=Il q;have r':Vals (vs++[V.int c]) (us++[Value.int c tk]):=r.append (.cons (show RelV (V.int c) (Value.int c tk) from ⟨tk,rfl⟩) .nil);have hl:(us++[Value.int c tk]).length=ps.length:=by rw[<- r'.length];exact G.len _ _ _ _ q'
 refine wpAny_call (codeAny_mono (G.run X.A X.stack s1 H1 ⟨us,[]⟩ (us++[Value.int c tk]) (vs++[V.int c]) Q (E σ) hr I1.Lj (hb s1 us I1.kIn hl) r' q') fun r s' hq=>?_);cases r with
 |error e=>exact hx pins σ H1 s1 e s' I1 hq
 |ok fl=>
  cases fl with
  |ret u=>exact I1.after hq
  |next=>exact SQ hq
  |brk=>exact SQ hq
  |cont=>exact SQ hq
end
theorem JS{C:Addr}{N:List Str}{n m:Nat}{R:Dm.Env->Option Dm.Env}{vs:List V}{H:Hp}{Q:VK}{E:XK}(hm:N.length=n+m)(h:spX C (Dm.fnX n m R) vs H Q E):tY C (fun _=>E) R (start N vs) H:=by have hvn:=uX h;obtain⟨H0,ds,s,rs,e,k⟩:=h;unfold Dm.fnX at e;rw[Td]at e;obtain⟨st,no⟩:=DV hm hvn s rs;obtain⟨ρ',hR⟩:=Th.mp e.2;exact⟨H0,_,ρ',st,hR,fun σ' a H0' H' t=>k a H0' H' ⟨t.stp.s0,fun a o e=>t.stp.s1 a o e (no a),fun a o e=>(t.stp.s2 a o e).imp id fun q=>q.elim id fun z=>absurd z (no a),t.st.same⟩⟩
theorem okY{P:Program}{w:World}{K:gV}{mg:Str->Option Value}{base:Heap}{x qual:Str}{st:Stmt}{f C:Addr}{fd:FuncData}{N ps:List Str}{k n m:Nat}{R:Dm.Env->Option Dm.Env}(F:Fun K x qual st f fd)(S:aA N ps (ai st))(hn:ps.length=n)(hm:N.length=n+m)
  (hbody:∀(cdv:Value) (A:Around) (outer:List Env) (s:Shared) (H:Hp) (E:XK),b5 k (A.deeper (envOfC qual (ai st) s.heap.objs.size f cdv))->YB (gT (CXE P w C) P w K mg base N qual (ai st) f cdv A outer s H E) C (fun _=>E) (aW st) R) :
  aV P w K mg base (CXE P w C) (k+1) f fd ps (spX C (Dm.fnX n m R)):=by
 obtain⟨oc,od,kV,doc,pm,an,cdv,ct,osl,rfl,lk,hcd⟩:=F.ex;refine z5 lk hcd S (fun vs H Q E h=>(uX h).trans hn.symm) fun A outer s H vs Q E hr hsp=>?_;exact⟨_,hbody cdv A outer s H E hr,JS hm hsp⟩
theorem PN{P:Program}{w:World}{K:gV}{mg:Str->Option Value}{base:Heap}{x qual:Str}{st:Stmt}{f C:Addr}{fd:FuncData}{N ps:List Str}{k n m:Nat}{R:Dm.Env->Option Dm.Env}(F:D4 K x qual st f fd)(S:aA N ps (ai st))(hn:ps.length=n)(hm:N.length=n+m)
  (hbody:∀(cdv:Value) (A:Around) (outer:List Env) (s:Shared) (H:Hp) (E:XK),b5 k (A.deeper (envOfC qual (ai st) s.heap.objs.size f cdv))->YB (gT (CXE P w C) P w K mg base N qual (ai st) f cdv A outer s H E) C (fun _=>E) (aW st) R) :
  aV P w K mg base (CXE P w C) (k+1) f fd ps (spX C (Dm.fnX n m R)):=by
 obtain⟨oc,od,dV,kV,doc,pm,an,cdv,ct,osl,rfl,lk,hcd⟩:=F.ex;refine z5 lk hcd S (fun vs H Q E h=>(uX h).trans hn.symm) fun A outer s H vs Q E hr hsp=>?_;exact⟨_,hbody cdv A outer s H E hr,JS hm hsp⟩
section
variable{X:Cx}{C:Nat}{b:Bool}{cs:List Nat}{bs:List Bool}{e:Expr}{f:Dm.FE}
theorem aZ(h1:DE X e (Dm.e1 (Dm.uW C b) f))(h2:DE X e (Dm.e1 (Dm.cA cs bs) f)):DE X e (Dm.e1 (Dm.cA (C::cs) (b::bs)) f):=fun pins s σ H Q I q=>by
 obtain⟨H0,ρ,x,ρ',st,e0,k⟩:=q;have e:=e0;unfold Dm.e1 at e;split at e
 ·cases e
 rename_i x1 ρ1 e1;split at e
 ·cases e
 rename_i dx p1;cases dx with
 |exc D=>
  by_cases hD:D=C
  ·refine h1 pins s σ H Q I ⟨H0,ρ,x,ρ',st,?_,k⟩;unfold Dm.e1;rw[e1];dsimp only;rw[p1];dsimp only;rw[<- e];unfold Dm.uW Dm.cA Dm.nC;dsimp only;rw[if_pos hD,if_pos hD];rfl
  ·refine h2 pins s σ H Q I ⟨H0,ρ,x,ρ',st,?_,k⟩;unfold Dm.e1;rw[e1];dsimp only;rw[p1];dsimp only;rw[<- e];unfold Dm.cA;dsimp only;rw[Dm.nC.eq_def (C::cs)];dsimp only;rw[if_neg hD]
 |_=>cases e
theorem f9:DE X e (Dm.e1 (Dm.cA [] []) f):=fun pins s σ H Q I q=>by
 obtain⟨H0,ρ,x,ρ',st,e,k⟩:=q;unfold Dm.e1 at e;split at e
 ·cases e
 split at e
 ·cases e
 rename_i dx p1;cases dx<;>cases e
end
theorem wN{f:Dm.FE}:∀{fs:List Dm.FE} {ρ ρ':Dm.Env} {xs:List Dm.Val},Dm.eAs (fs++[f]) ρ=some (xs,ρ')->∃ys ρ1 y,Dm.eAs fs ρ=some (ys,ρ1)/\f ρ1=some (y,ρ')/\xs=ys++[y]/\ys.length=fs.length
 |[],ρ,ρ',xs,h=>by
  rw[Ut]at h;unfold Dm.eAs at h;split at h
  ·cases h
  rename_i y ρ1 e1;unfold Dm.eAs at h;cases h;exact⟨[],ρ,y,rfl,e1,rfl,rfl⟩
 |g::fs,ρ,ρ',xs,h=>by
  rw[TU]at h;unfold Dm.eAs at h;split at h
  ·cases h
  rename_i z ρ1 e1;split at h
  ·cases h
  rename_i zs ρ2 e2;cases h;obtain⟨ys,ρ3,y,h1,h2,h3,h4⟩:=wN e2;refine⟨z::ys,ρ3,y,?_,h2,by rw[h3];rfl,by rw[Tt,Tt,h4]⟩;unfold Dm.eAs;rw[e1];dsimp only;rw[h1]
theorem cz.JT{Hs H0 H:Hp}{σ:L2.St}{ρ:Dm.Env}{v:V}{x:Dm.Val}(h:iI Hs H0 H σ ρ v x):∀{vs:List V} {xs:List Dm.Val},cz Hs H0 H σ ρ vs xs->cz Hs H0 H σ ρ (vs++[v]) (xs++[x])
 |_,_,.nil=>.cons h .nil
 |_,_,.cons a r=>.cons a (cz.JT h r)
theorem cz.JU{Hs H0 H H0' H':Hp}{σ:L2.St}{ρ ρ':Dm.Env}(t:ESt σ ρ H0 H ρ' H0' H'):∀{vs:List V} {xs:List Dm.Val},cz Hs H0 H σ ρ vs xs->cz Hs H0' H' σ ρ' vs xs
 |_,_,.nil=>.nil
 |_,_,.cons a r=>.cons (a.mono t) (cz.JU t r)
end Br
namespace Dm
noncomputable def mw:List Int->Int->Int
 |[],d=>d
 |n::ns,_=>o9 n ns
noncomputable def qw:List Dat->Option RV
 | [.lst xs,.int d]=>(match nZ xs with
  |some ns=>vI (mw ns d)
  |none=>none)
 |_=>none
end Dm
namespace PySem
open Sem (wp)
noncomputable def MF(P:Nat->Value->Prop)(bt:Nat->Nat->Bool):Nat->Array Value->Prop
 |0,old=>old=#[]
 |j+1,old=>∃vb,old=#[vb,vb]/\P (argBest bt j) vb
noncomputable def Az(P:Nat->Value->Prop)(bt:Nat->Nat->Bool)(n:Nat)(d v:Value):Prop:=match n with
 |0=>v=d
 |m+1=>P (argBest bt m) v
theorem Im{prog:Program}{w:World}{A:Around}{E:Value->Shared->Prop}{s:Shared}{id:String}{b:Builtin}{args:List Value}{kw:List (Str×Value)}{Q:Value->Shared->Prop}(hk:builtinKind id=none)(hp:plainId id=true)
  (hb:entryFor table id=some b) (ha:argsOk id ⟨args,kw⟩)
  (hc:wpAny (model prog w) A.in1 (b ⟨args,kw⟩) (fun fin s'=>match fin with
   |.done f=>(match (Except.ok f:Result) with | .ok (.ret v)=>Q v s' | .ok _=>False | .error e=>E e s')
   |.again c'=>c'.quiet=true/\codeAny (model prog w) A c' (fun r s'=>match r with | .ok (.ret v)=>Q v s' | .ok _=>False | .error e=>E e s') s') E s) :
  wpAny (model prog w) A (call (.builtin id) args kw) Q E s:=by
 refine wpAny_call (codeAny_call_builtin hp hb ?_);simp only[checkBuiltinCall,hk];cases RO:Manifest.signature? id with
 |none=>exact wpAny_pure hc
 |some sig=>refine wpAny_of_eq (a:=()) ?_ hc;unfold argsOk at ha;rw[RO]at ha;exact ha
theorem BQ(a d:Value):argsOk "min" ⟨[a],[("default",d)]⟩:=by unfold argsOk;kernel_rfl
section
variable{prog:Program}{w:World}{A:Around}{R:Result->Shared->Prop}{I:Addr}{fp wr:List Addr}{n:Nat}{P:Nat->Value->Prop}{St:Nat->Heap->Prop}
theorem BR(W:Walks prog w A.in1 I fp wr n P St)(bt:Nat->Nat->Bool)(hcmp:CmpOf prog w A.in1 .Lt P bt)(S:Addr)(hSf:S∉fp)(dv:Value) :
  ∀(k j:Nat) (s:Shared) (old:Array Value) (c:Nat),n-j=k->j<=n->St j s.heap->MF P bt j old->s.heap.get? S=some { cls:=.type "list",dict:=none,data:=.seq old c,slots:=#[] } ->
  (∀v h' tk,Az P bt n dv v->(∀b o,b∉wr->b≠S->s.heap.get? b=some o->h'.get? b=some o)->R (.ok (.ret v)) { s with heap:=h',toks:=tk }) ->
  codeAny (model prog w) A (.builtin "min.loop" ⟨[.ref I,.none,.ref S],[("default",dv)]⟩) R s:=by
 have hSw:S∉wr:=fun h=>hSf (W.sub _ h);have nm:(toString "min" ++ toString ".loop" : String) = "min.loop" := by decide
 intro k
 induction k with
 |zero=>
  intro j s old c hk hj hst hB hS hR;have hin:j=n:=by omega
  subst hin;refine codeAny_builtin F.entry_min_loop (?_:wpAny _ _ _ _ _ _);rw[Around.under_plainId UA _];refine wpAny_bind (wpAny_seqItems hS rfl ?_);refine wpAny_bind (wpAny_tryCatch (W.done s _ _ hst fun h' tk hk'=>?_));have hS':=hk' S _ hSw hS;cases j with
  |zero=>have ho:old=#[]:=hB;subst ho;exact wpAny_bind (wpAny_rule (wpAny_pure (hR dv h' tk rfl fun b o hbw _ e=>hk' b o hbw e)))
  |succ j=>obtain⟨vb,ho,hP⟩:=hB;subst ho;refine wpAny_bind ?_;refine wpAny_updateSeq hS' rfl (wpAny_bind (wpAny_letGo (wpAny_pure ?_)));exact hR vb _ tk hP fun b o hbw hbS e=>(TM _ _ (Ne.symm hbS)).trans (hk' b o hbw e)
 |succ k ih=>
  intro j s old c hk hj hst hB hS hR;have hlt:j<n:=by omega
  refine codeAny_builtin F.entry_min_loop (?_:wpAny _ _ _ _ _ _);rw[Around.under_plainId UA _];refine wpAny_bind (wpAny_seqItems hS rfl ?_);refine wpAny_bind (wpAny_tryCatch (W.item j s _ _ hlt hst fun v h' tk hP MG hk'=>?_));have hS':=hk' S _ hSw hS;cases j with
  |zero=>have ho:old=#[]:=hB;subst ho;refine wpAny_bind (wpAny_pure (wpAny_bind ?_));refine wpAny_updateSeq hS' rfl ?_;rw[nm];refine wpAny_pure ⟨plainId_quiet UA _,ih 1 _ _ _ (by omega) hlt (W.frame _ _ _ MG fun b hbf o e=>(TM _ _ (fun h:S=b=>hSf (by rw[h];exact hbf))).trans e) ⟨v,rfl,hP⟩ (Ua _ hS' rfl) fun v' h'' Eh hP' Ei=>?_⟩;exact hR v' h'' Eh hP' fun b o hbw hbS e=>Ei b o hbw hbS ((TM _ _ (Ne.symm hbS)).trans (hk' b o hbw e))
  |succ j=>
   obtain⟨vb,ho,hPb⟩:=hB;subst ho;refine wpAny_bind (wpAny_pure ?_);refine wpAny_bind (wpAny_tryCatch (wpAny_holding (wpAny_bind (hcmp (j+1) (argBest bt j) v vb _ _ _ hP hPb (wpAny_bind (wpAny_holding (wpAny_truthy_bool (wpAny_bind (wpAny_letGo (wpAny_pure ?_))))))))));cases hb:bt (j+1) (argBest bt j) with
   |true=>simp only[if_true];refine wpAny_bind (wpAny_updateSeq hS' rfl (wpAny_bind (wpAny_letGo ?_)));rw[nm];refine wpAny_pure ⟨plainId_quiet UA _,ih (j+2) _ _ _ (by omega) hlt (W.frame _ _ _ MG fun b hbf o e=>(TM _ _ (fun h:S=b=>hSf (by rw[h];exact hbf))).trans e) ⟨v,rfl,by simp only[argBest,hb,if_true];exact hP⟩ (Ua _ hS' rfl) fun v' h'' Eh hP' Ei=>?_⟩;exact hR v' h'' Eh hP' fun b o hbw hbS e=>Ei b o hbw hbS ((TM _ _ (Ne.symm hbS)).trans (hk' b o hbw e))
   |false=>simp only[Ub,if_false];refine wpAny_bind (wpAny_letGo ?_);rw[nm];refine wpAny_pure ⟨plainId_quiet UA _,ih (j+2) _ _ _ (by omega) hlt MG ⟨vb,rfl,by simp only[argBest,hb,Ub,if_false];exact hPb⟩ hS' fun v' h'' Eh hP' Ei=>?_⟩;exact hR v' h'' Eh hP' fun b o hbw hbS e=>Ei b o hbw hbS (hk' b o hbw e)
end
theorem BS{prog:Program}{w:World}{A:Around}{E:Value->Shared->Prop}{s:Shared}{x dv:Value}{Q:Value->Shared->Prop}
  (h:wpAny (model prog w) A.in1 (pyIter x) (fun it s₂=>∃ I fp wr n P St bt,it=.ref I∧Walks prog w A.in1 I fp wr n P St∧St 0 s₂.heap∧(∀ b∈fp,b<s₂.heap.objs.size)∧CmpOf prog w A.in1 .Lt P bt ∧
   ∀v h' tk,Az P bt n dv v->(∀b o,b∉wr->s₂.heap.get? b=some o->h'.get? b=some o)->Q v { s₂ with heap:=h',toks:=tk }) E s) :
  wpAny (model prog w) A (call (.builtin "min") [x] [("default",dv)]) Q E s:=by
 have nm:(toString "min" ++ toString ".loop" : String) = "min.loop" := by decide
 refine Im F.kind_min F.plain_min F.entry_min (BQ _ _) ?_;refine wpAny_bind (wpAny_of_eq (show Builtin.Builtins.bindParams "min" ["key","default"] 0 ⟨[],[("default",dv)]⟩=pure [none,some dv] from rfl) ?_);refine wpAny_bind (wpAny_pure ?_);refine wpAny_bind (wpAny_mono h (fun it s₂ h₂=>?_) fun _ _ e=>e);obtain⟨I,fp,wr,n,P,St,bt,rfl,W,hst,hfp,hcmp,hQ⟩:=h₂;refine wpAny_bind (wpAny_newObj_type ?_);have hSf:s₂.heap.objs.size∉fp:=fun hm=>Tq _ (hfp _ hm);rw[nm];refine wpAny_pure ⟨plainId_quiet UA _,BR W bt hcmp s₂.heap.objs.size hSf dv n 0 _ _ _ rfl (Ti _) (W.frame _ _ _ hst fun b _ o e=>PU _ e) rfl (SY _ rfl) fun v h' tk hP hk=>?_⟩;exact hQ v h' tk hP fun b o hbw e=>hk b o hbw (S0 (SD e)) (PU _ e)
end PySem
namespace Br
open PySem PySem.Spec PyProof.Rows L2
noncomputable def Ej(X:Cx)(f:Value)(nm:Str)(r:List V->Hp->VK->Prop):Prop:=∀(pins:List (Addr×Obj)) (s:Shared) (σ:L2.St) (H:Hp) (vs:List V) (v:V) (us:List Value) (u:Value) (Q:VK),Inv X pins σ H s->Vals vs us->RelV v u->r (vs++[v]) H Q->wpAny (model X.prog X.w) X.A (call f us [(nm,u)]) (EP X pins σ Q) X.xe s
theorem RP{X:Cx}{x nm:Str}{id:String}{e e2:Expr}{es:List Expr}{fs:List Dm.FE}{f:Dm.FE}{p pos kpos:Pos}{r:List V->Hp->VK->Prop}{g:List Dm.Dat->Option Dm.RV}(hc:Ej X (.builtin id) nm r)(cd:CallD r g)(hv:bootBuiltins x=some (.builtin id))(hg:Gl X x)(hm:X.mg x=none)(ha:DA X (e::es) fs)(h2:DE X e2 f)
  (he:backTo pos (starEach (e::es) X.env)=(false,eval e X.env)::backTo pos (starEach es X.env)) (hpl:(backTo pos (starEach (e::es) X.env)).any (·.1)=false) (hn:x ≠ "__name__" := by decide) (hdb:(x == ("__debug__" : Str))=false:=by decide) :
  DE X (.Call (.Name x p) (e::es) [⟨some nm,e2,kpos⟩] pos) (Dm.eB g (fs++[f])):=by
 intro pins s σ H Q I h;have h':=G3 cd h;obtain⟨H0,ρ,xs,ρ',st,e0,k⟩:=h';obtain⟨ys,ρ1,y,e1,e2',rfl,hl⟩:=wN e0;refine wpAny_Call_Name_kw (fH I hg hm hv ?_ hn hdb);refine PyProof.Rows.callWith_kw (thn (ha pos pins s σ H (fun vs H1=>tD f σ H1 fun v H2=>r (vs++[v]) H2 Q) I ⟨H0,ρ,ys,ρ1,st,e1,fun vs H0' H' t rr=>⟨H0',ρ1,y,ρ',t.st,e2',fun v p6 H'' t2 r2=>k (vs++[v]) p6 H'' (t.trans t2) (cz.JT (r2.early fun a z=>t.stp.gone z) (cz.JU t2 rr))⟩⟩) fun us s1 ⟨vs,H1,I1,r1,q1⟩=>?_) he hpl rfl rfl;refine kws_cons (thn (h2 pins s1 σ H1 _ I1 q1) fun u s2 ⟨v,H2,I2,r2,q2⟩=>?_);exact kws_nil (hc pins s2 σ H2 vs v us u Q I2 r1 r2 q2)
section
variable{X:Cx}
theorem BU(hc:X.calm=true):Ej X (.builtin "min") "default" (fun xs H Q=>∃(a:Addr) (ns:List Int) (d:Int),xs=[.ref a,.int d]/\Rd H a (.lst (ns.map V.int))/\Q (.int (Dm.mw ns d)) H):=by
 intro pins s σ H xs y us u Q I r ry h;obtain⟨a,ns,d,hxs,hq,q⟩:=h;obtain⟨rfl,rfl⟩:xs=[.ref a]/\y=.int d:=by have:=List.append_inj' (s₂:=[V.ref a]) (t₂:=[V.int d]) hxs rfl;exact⟨this.1,by injection this.2⟩
 obtain⟨u1,rfl,rx⟩:=vals1 r;cases rx;obtain⟨t0,rfl⟩:=ry;obtain⟨z,its,n,rv,e⟩:=hq.ok I.hok;have hl:s.heap.IsList a its.toArray:=⟨_,e,rfl,_,rfl⟩
 have hlen:=rv.length;rw[Sx]at hlen;have hax:a≠s.heap.objs.size:=S0 (SD e);have e1:its.toArray.size=ns.length:=by rw[SE,<- hlen]
 refine PySem.BS (wpAny_pyIter_list hl ⟨s.heap.objs.size,_,_,_,_,_,_,rfl,Walks.list (A:=X.A.in1) (I.ok.hd hc) s.heap.objs.size a hax its.toArray,⟨⟨_,SY _ rfl,rfl,rfl⟩,hl.push _⟩,?_,CmpOf.ints_lt (fun i=>ns.getD i 0) (pD rv),fun v h' tk hp hk=>?_⟩)
 ·intro b hb;simp only[SH,T9,or_false]at hb;rcases hb with rfl | rfl
  ·show s.heap.objs.size<_;exact Uw ..▸Vs _
  ·show b<_;exact Uw ..▸Vq (SD e)
 ·have out:∃t',v=.int (Dm.mw ns d) t':=by
   cases ns with
   |nil=>
    have e0:its.toArray.size=0:=e1;have hv:v=.int d t0:=by rw[e0]at hp;exact hp
    exact⟨t0,hv⟩
   |cons n0 nr=>have e2:its.toArray.size=nr.length+1:=e1;rw[e2]at hp;obtain⟨t',hv⟩:=pD rv _ _ hp;refine⟨t',hv.trans ?_⟩;rw[wL n0 nr _ (Sz _),List.take_length];rfl
  obtain⟨t',rfl⟩:=out;refine⟨.int (Dm.mw ns d),H,I.kept (t':=tk) fun b o eb=>hk b o ?_ (PU _ eb),⟨t',rfl⟩,q⟩;intro hm;have:b=s.heap.objs.size:=by simpa using hm
  exact absurd (SD eb) (by rw[this];exact Tq _)
theorem Io:CallD (fun xs H Q=>∃(a:Addr) (ns:List Int) (d:Int),xs=[.ref a,.int d]/\Rd H a (.lst (ns.map V.int))/\Q (.int (Dm.mw ns d)) H) Dm.qw:=by
 intro H0 H vs ds z Q s rs e k;unfold Dm.qw at e;split at e
 ·split at e
  ·rename_i ns hb;cases e;cases rs with
   |cons r rr=>
    cases rr with
    |cons r2 rr2=>
    cases rr2;obtain⟨a,us,rfl,qa,ra⟩:=b8 s r;have:=j9 ra hb;subst this;have:=aG r2;subst this;exact⟨a,ns,_,rfl,qa,k _ H0 H (aQ.refl s) (.int _)⟩
  ·cases e
 ·cases e
theorem MH{e e2:Expr}{fs:List Dm.FE}{f:Dm.FE}{p pos kpos:Pos}(hc:X.calm=true)(hg:Gl X "min")(hm:X.mg "min" = none)(ha:DA X [e] fs)(h2:DE X e2 f)(he:backTo pos (starEach [e] X.env)=(false,eval e X.env)::backTo pos (starEach [] X.env):=by rfl)
  (hpl:(backTo pos (starEach [e] X.env)).any (·.1)=false:=by rfl):DE X (.Call (.Name "min" p) [e] [⟨some "default",e2,kpos⟩] pos) (Dm.eB Dm.qw (fs++[f])):=RP (BU hc) Io (by rfl) hg hm ha h2 he hpl
end
end Br
namespace Dm
noncomputable def u9(bd:FB)(hx k vx:Nat)(t:FT)(ky:FE):List Dat->Env->List Int->List (List Dat)->Option (Env×List Int×List (List Dat))
 |[],ρ,ks,rows=>some (ρ,ks,rows)
 |d::q,ρ,ks,rows=>match bd d ρ with
  |none=>none
  | some ρ1=>if ks.length≤SZ then (match fq (bN k) t (eV k) (ks.map Dat.int) (ρ1++[.un]) [] with
   | some (ys,ρ2)=>(match ky ((ρ2.take ρ1.length).set hx (.ow (.lst ys))) with
    | some (.val (.int g),ρ3)=>(match ρ3[vx]? with
     | some (.sh (.int v))=>(match BO ks rows g (.int v) with
      |some (ks1,qx)=>u9 bd hx k vx t ky q ρ3 ks1 qx
      |none=>none)
     |_=>none)
    |_=>none)
   |none=>none) else none
noncomputable def BV(j:Nat)(it:FI)(bd:FB)(hx k vx:Nat)(t:FT)(ky:FE)(g:FS):FS:=fun ρ=>if j=0\/hx=0\/j=hx then none else match it (ρ.set j .un) with
 |none=>none
 | some (ds,ρ1)=>(match u9 bd hx k vx t ky ds ρ1 [] [] with
  |some (ρ2,ks,rows)=>g (ρ2.set j (.ow (.dct ks (rows.map .lst))))
  |none=>none)
end Dm
namespace Br
open PySem PySem.Spec PyProof.Rows L2
theorem Ip{P:Program}{w:World}{k:Key}{u:Value}(h:(a_ P w).is k u=true):RelV (kV k) u:=by
 rcases bV h with⟨i,t,rfl,rfl⟩ | ⟨x,t,rfl,rfl⟩
 ·exact⟨t,rfl⟩
 ·exact⟨t,rfl⟩
theorem Inv.PR{X:Cx}{pins:List (Addr×Obj)}{σ:L2.St}{H:Hp}{s:Shared}{a:Addr}{o:Obj}{kvs:List (Key×V)}(I:Inv X pins σ H s)(h:H a=some (.frz o (.dK kvs)))(n0:∀o u,X.H₀ a≠some (.frz o u)):Inv X pins σ (upd H a (.dK kvs)) s:=by
 have ne:∀{b:Addr},H b=none->b≠a:=fun {b} hb z=>by rw[z,h]at hb;cases hb
 refine⟨I.ok,I.os,I.bare,⟨I.base.keep,I.base.slot,fun b o' h1 h2 h3=>?_,I.base.there,fun b ys h1=>?_,fun b o' u h1=>?_,fun b ps h1=>?_⟩,I.loc,I.cell,?_,fun x c hx=>?_,fun p hp=>?_,fun b u e=>?_,I.len⟩
 ·have q:=I.base.free b o' h1 h2 h3;rw[aj (ne q)];exact q
 ·have q:=I.base.tups b ys h1;rw[aj fun z=>by rw[z,h]at q;cases q];exact q
 ·have q:=I.base.jZ b o' u h1;rw[aj fun z=>by rw[z]at h1;exact n0 _ _ h1];exact q
 ·obtain⟨more,q⟩:=I.base.m7 b ps h1;exact⟨more,by rw[aj fun z=>by rw[z,h]at q;cases q];exact q⟩
 ·rw[aj (ne I.free)];exact I.free
 ·rw[aj (ne (I.dG x c hx))];exact I.dG x c hx
 ·obtain⟨q1,q2,q3⟩:=I.pin p hp;exact⟨q1,by rw[aj (ne q2)];exact q2,q3⟩
 ·by_cases z:b=a
  ·subst z;rw[au]at e;cases e;obtain⟨_,q⟩:=(show br X.prog X.w H s.heap b (.frz o (.dK kvs)) from I.hok b _ h)
   exact q
  ·rw[aj z]at e;exact(I.hok b u e).stay (fun c v _ q=>q) (fun c q=>by rw[aj fun z=>by rw[z,h]at q;cases q];exact q) fun c ys q=>by rw[aj fun z=>by rw[z,h]at q;cases q];exact q
noncomputable def MI(D:Addr)(o:Obj)(kvs:List (Key×V)):It:=
 ⟨fun i H=>i<kvs.length/\H D=some (.frz o (.dK kvs)),fun i H x H'=>H'=H/\(kvs.map fun p=>kV p.1)[i]?=some x,fun i H=>kvs.length<=i/\H D=some (.frz o (.dK kvs))⟩
theorem MJ{kvs:List (Key×V)}{vs:List (Key×Value)}(r:KV kvs vs):∀{i:Nat},i<kvs.length->∃k u,(kvs.map fun p=>kV p.1)[i]?=some (kV k)/\vs[i]?=some (k,u):=by
 induction r with
 |nil=>intro i h;cases h
 |@cons p q ps qs hq t ih=>
  intro i h;cases i with
  |zero=>exact⟨q.1,q.2,by rw[<- hq.1];rfl,rfl⟩
  |succ i=>obtain⟨k,u,h1,h2⟩:=ih (i:=i) (by simpa using h);exact⟨k,u,by simpa using h1,by simpa using h2⟩
theorem BW{P:Program}{w:World}{K:gV}{tg:Expr}(D it:Addr)(o:Obj)(kvs:List (Key×V)){es ep}(hep:o.data=.dict es ep):Turn P w K tg (MI D o kvs) [it] it (fun i h=>h.IsKeyIter it D i kvs.length ep) where
 mem:=by simp
 obj:=fun i h st b hb=>by
  have e:b=it:=by simpa using hb
  subst e;obtain⟨o,e,c,d⟩:=st;exact⟨o,e,fun v z=>by rw[d]at z;cases z⟩
 keep:=fun i h h' st k=>st.at fun o e=>k it (by simp) o e
 item:=by intro X hP hw hK hc i pins s σ H E I hf st hg;subst hP hw hK;obtain⟨hi,hD⟩:=hg;obtain⟨vs,rel,hm⟩:=u6 hep I hD;obtain⟨f0,f1,f2,f3,f4,f5⟩:=hf it (by simp);obtain⟨k,u,h1,h2⟩:=MJ rel hi;have hl:kvs.length=vs.length:=rel.length;rw[hl]at st;refine wpAny_pyNext_dict_item st hm h2 fun key h' hk st' sb=>?_;have I1:Inv X pins σ H { s with heap:=h' }:=I.turned (t':=s.toks) (fun b o hb e=>(sb.2 b hb).trans e) f0 f1 f3 f4 f5;obtain⟨o,e,c,d⟩:=id st';rw[<- hl]at st';exact⟨key,rfl,tE (s:={ s with heap:=h' }) e c d (by decide) ⟨kV k,H,I1,Ip hk,⟨rfl,h1⟩,st',fun b hb=>(hf b hb).1⟩⟩
 done:=by intro X hP hw hK hc i pins s σ H E I hf st hg;subst hP hw hK;obtain⟨hi,hD⟩:=hg;obtain⟨vs,rel,hm⟩:=u6 hep I hD;obtain⟨f0,f1,f2,f3,f4,f5⟩:=hf it (by simp);have hl:kvs.length=vs.length:=rel.length;rw[hl]at st hi;exact wpAny_pyNext_dict_end (I.ok.hd hc) st hm (Tc hi) fun h' eb=>⟨rfl,I.turned (t':=s.toks) (fun b o hb e=>eb b o hb e) f0 f1 f3 f4 f5⟩
 self:=fun _ _ _ _ _ st h=>wpAny_pyIter_keyiter st h
noncomputable def iKy(j:Nat):TI:=fun σ H R=>∃D kvs,σ[j]?=some (some (.ref D))/\H D=some (.dK kvs)/\∀o,R (MI D o kvs) (upd H D (.frz o (.dK kvs)))
theorem Iq{X:Cx}{tg:Expr}{x:Str}{px:Pos}{j:Nat}(hi:X.N[j]?=some x)(hv:Vis X.env.scope x)(hd:(x == ("__debug__" : Str))=false)(hcd:(x == ("__classdict__" : Str))=false):PI X tg (.Name x px) (iKy j):=by
 intro pins s σ H R I h;obtain⟨D,kvs,hσ,hD,k⟩:=h;refine thn (fG hi hv hd hcd pins s σ H (fun v H'=>v=.ref D/\H'=H) I ⟨_,hσ,rfl,rfl⟩) fun v s1 ⟨y,H1,I1,r1,q1,q2⟩=>?_;subst q1 q2;obtain rfl:v=S4 D:=r1;obtain⟨t1,t2,hs⟩:=pT I1 (.inl ⟨_,.inl hD⟩);obtain⟨zz,hsm,vs,rel,dd⟩:=pP I1.hok hD;obtain⟨ep,o,es,ho,hc,hdt,r⟩:=dd.dictAt;refine wpAny_pyIter_dict (knd:=a_ X.prog X.w) (kvs:=vs) (ep:=ep) hs ⟨o,es,ho,hc,hdt,r⟩ ?_;have hl:kvs.length=vs.length:=rel.length;have I3:=I1.kept (t':=s1.toks) (h':=s1.heap.push { cls:=.type "dict_keyiterator",data:=.fields #[.ref D,.int 0 0,.int vs.length 0,.int ep 0] }) fun b o e=>PU _ e;refine⟨_,[s1.heap.objs.size],_,_,_,rfl,Inv.freeze I3 hD (PU _ ho),BW D _ o kvs hdt,?_,fun b hb=>?_,k o⟩
 ·exact⟨_,SY _ rfl,rfl,by rw[hl];rfl⟩
 ·have e:b=s1.heap.objs.size:=by simpa using hb
  subst e;have hn:=I1.hok.fresh (Sz s1.heap.objs.size);exact I1.vP (Sz _) (by rw[aj fun z=>by rw[z,hD]at hn;cases hn];exact hn)
noncomputable def JV(t:TS):TS:=fun E σ H=>∃L kvs,H L=some (.dK kvs)/\t { nx:=fun σ' H'=>∃o,H' L=some (.frz o (.dK kvs))/\E.nx σ' (upd H' L (.dK kvs)),rt:=fun _ _=>False,bk:=fun _ _=>False,ct:=fun _ _=>False } σ H
theorem Ir{X:Cx}{st:Stmt}{t:TS}(h:PS X st t):PS X st (JV t):=by
 intro pins s σ H E I q;obtain⟨L,kvs,hL,q⟩:=q;refine wpAny_mono (h pins s σ H _ I q) (fun f s1 z=>?_) fun _ _ z=>z;cases f with
 |next=>obtain⟨σ',H',J,o,h1,h3⟩:=z;exact⟨σ',_,Inv.PR J h1 (fun o u e=>by have:=I.base.jZ L o u e;rw[hL]at this;cases this),h3⟩
 |ret v=>obtain⟨u,σ',H',J,r,k⟩:=z;exact k.elim
 |brk=>obtain⟨σ',H',J,k⟩:=z;exact k.elim
 |cont=>obtain⟨σ',H',J,k⟩:=z;exact k.elim
section
variable{D:Ends}{j hx vx k:Nat}{σs:L2.St}{ρs:Dm.Env}{H0s Hs:Hp}{σ:L2.St}{ρ ρ1 ρ2:Dm.Env}{H0 H:Hp}{ks:List Int}{rows:List (List Dm.Dat)}
theorem ESt.RQ{ρ':Dm.Env}{H0' H':Hp}{L:Addr}{o:Obj}{kvs:List (Key×V)}(t:ESt σ ρ H0 (upd H L (.frz o (.dK kvs))) ρ' H0' H')(hL:H L=some (.dK kvs))(h0:H0' L=none)(no:¬ao σ ρ L):ESt σ ρ H0 H ρ' H0' (upd H' L (.dK kvs)):=by
 refine⟨t.st.aside h0 fun z=>no (t.own L z),⟨t.stp.s0,fun a u e n=>?_,fun a u e=>?_,fun a u e=>?_⟩,t.own,t.dfn⟩
 ·by_cases z:a=L
  ·subst z;rw[au];rw[hL]at e;exact e
  ·rw[aj z];exact t.stp.s1 a u (by rw[aj z];exact e) n
 ·by_cases z:a=L
  ·subst z;rw[h0]at e;cases e
  ·have:=t.stp.s2 a u e;rw[aj z]at this;exact this
 ·by_cases z:a=L
  ·subst z;exact⟨_,au⟩
  ·obtain⟨o',e'⟩:=t.stp.s3 a u (by rw[aj z];exact e);exact⟨o',by rw[aj z];exact e'⟩
theorem DGs.store{a:Addr}{ys:List Dm.Dat}(n:DGs j σs ρs H0s Hs σ ρ H0 H ks rows)(hj:hx≠j)(h0:hx≠0)(no:¬ao σ ρ a)(n0:H0 a=none)(w:Own H0 H a (.lst ys))(hs:Hs a=none)(na:∀L ps,σ[j]?=some (some (.ref L))->H L=some (.dK (dh ks ps))->aU H0 H ps rows->ks.length=ps.length->a≠L/\a∉ps) :
  DGs j σs ρs H0s Hs (σ.set hx (some (.ref a))) (ρ.set hx (.ow (.lst ys))) H0 H ks rows:=by
 obtain⟨L,ps,h1,h2,h3,h4,h5,h6,h7,h8,h9⟩:=n.ex;obtain⟨nL,nP⟩:=na L ps h1 h5 h8 h9.1;have ow:∀b,ao (σ.set hx (some (.ref a))) (ρ.set hx (.ow (.lst ys))) b->b=a\/ao σ ρ b:=fun b z=>l0 z;refine⟨n.st.yQ no n0 w,n.stp,fun b z=>?_,(eg h0).trans n.fx,L,ps,by rw[eg hj];exact h1,h2,h3,fun z=>?_,h5,h6,fun p hp=>⟨(h7 p hp).1,(h7 p hp).2.1,fun z=>?_⟩,h8,h9⟩
 ·rcases ow b z with rfl | z
  ·exact .inr hs
  ·exact n.own b z
 ·rcases ow L z with e | z
  ·exact nL e.symm
  ·exact h4 z
 ·rcases ow p z with e | z
  ·exact nP (e▸hp)
  ·exact(h7 p hp).2.2 z
theorem MK{t:Dm.FT}{g:TG}{ys:List Dm.Dat}(hb:BD [k] g (Dm.bN k))(hl:σ.length<=k)(n:DGs j σs ρs H0s Hs σ ρ1 H0 H ks rows)(hj:hx≠j)(h0:hx≠0)(hsz:ks.length<=Dm.SZ)(e2:Dm.fq (Dm.bN k) t (Dm.eV k) (ks.map Dm.Dat.int) (ρ1++[.un]) []=some (ys,ρ2))
  (c:∀σ' H0' H',DGs j σs ρs H0s Hs σ' ((ρ2.take ρ1.length).set hx (.ow (.lst ys))) H0' H' ks rows->av H0 H0'->D.nx σ' H'):JV (uF (tLC (iKy j) 1 g (tDT t) (tD (Dm.eV k))) (iO hx)) D σ H:=by
 obtain⟨L,ps,h1,h2,h3,h4,h5,h6,h7,h8,h9,h10⟩:=n.ex;refine⟨L,dh ks ps,h5,L,dh ks ps,h1,h5,fun o=>?_⟩;intro D' hD';have hf:(upd H L (.frz o (.dK (dh ks ps)))) L=some (.frz o (.dK (dh ks ps))):=au;obtain⟨kk,kv⟩:=gO h9;have lk:(dh ks ps).length=ks.length:=by rw[<- Sx (f:=(·.1)),kk,Sx]
 refine p5 (own:=1) (J:=MI L o (dh ks ps)) (Q:=fun v H1=>∃o,H1 L=some (.frz o (.dK (dh ks ps)))/\D.nx (σ.set hx (some v)) (upd H1 L (.dK (dh ks ps)))) (pa:=some (L,.frz o (.dK (dh ks ps)))) hb (fun i hi=>by rw[SV.mp hi];exact hl) (n.st.aside h3 h4) (fun q e=>by cases e;exact⟨hf,h3,h4⟩) (fun Ha Hc s0 s1 hq=>?_) (by rw[Sx];exact hsz) e2 (fun v H0' H' t2 r2 hpa=>?_) D' hD'
 ·have hL:Hc L=some (.frz o (.dK (dh ks ps))):=hq _ rfl;refine⟨fun i hi=>⟨by rw[lk];rw[Sx]at hi;exact hi,hL⟩,fun i d hd=>⟨⟨by rw[lk];have:=(Sw.mp hd).1;rw[Sx]at this;exact this,hL⟩,fun x H2 hy=>?_⟩⟩;obtain⟨rfl,hy⟩:=hy;refine⟨Ha,aQ.refl s1,?_⟩;have e3:((dh ks ps).map fun p=>kV p.1)=ks.map V.int:=by
   have:=congrArg (List.map kV) kk;rw[T7,T7]at this;exact this
  rw[e3,SM]at hy;rw[SM]at hd;cases q:ks[i]? with
  |none=>rw[q]at hd;cases hd
  |some m=>rw[q]at hd hy;cases hd;cases hy;exact .int m
 ·obtain⟨z1,z2⟩:=hpa _ rfl;obtain⟨a,rfl,na,no,n0,w⟩:=r2;have nL:a≠L:=fun z=>by rw[z,hf]at na;cases na
  have nHa:H a=none:=by rw[aj nL]at na;exact na
  have n1:=n.est (ESt.RQ t2 h5 z2 h4);refine⟨o,z1,?_⟩;obtain⟨xs,w1,w2⟩:=w;refine c (σ.set hx (some (.ref a))) H0' _ (n1.store hj h0 no n0 ⟨xs,by rw[aj nL];exact w1,w2⟩ (n.stp.gone nHa) fun L2 ps2 q1 q2 q3 q4=>?_) t2.stp.s0;rw[h1]at q1;cases q1;refine⟨nL,fun hp=>?_⟩;rw[au]at q2;have e4:dh ks ps=dh ks ps2:=by injection q2 with q2;injection q2
  have e5:ps.map V.ref=ps2.map V.ref:=by rw[<- kv,<- (gO q4).2,e4]
  have hp':V.ref a∈ps.map V.ref:=by rw[e5];exact List.mem_map_of_mem hp
  obtain⟨b,hb',eb⟩:=S7.mp hp';cases eb;obtain⟨o',q5⟩:=h8.some a hb';rw[nHa]at q5;cases q5
noncomputable def tDH(j vx:Nat)(f:Dm.FE):TS:=fun D σ H=>∃σs ρs H0s Hs H0 ρ ρ' ks rows g v ks' rows',DGs j σs ρs H0s Hs σ ρ H0 H ks rows/\f ρ=some (.val (.int g),ρ')/\ρ'[vx]?=some (.sh (.int v))/\Dm.BO ks rows g (.int v)=some (ks',rows') /\
 ∀H0' H',DGs j σs ρs H0s Hs σ ρ' H0' H' ks' rows'->av H0 H0'->D.nx σ H'
theorem ML{K:gV}{f:Dm.FE}(h:tDH j vx f D σ H):tw (tBM K "list" pA (Ed (pL j) (tD f) (CI uG)) (lT (pL vx) uG)) D σ H:=by
 obtain⟨σs,ρs,H0s,Hs,H0,ρ,ρ',ks,rows,g,v,ks',rows',n,hf,hv,e,k⟩:=h;obtain⟨L,ps0,h1,_,_,_,h5',_⟩:=n.ex;refine⟨_,h1,L,rfl,.inl ⟨_,.inl h5'⟩,H0,ρ,_,ρ',n.st,hf,fun vk H0' H' t r=>?_⟩;cases r;have n:=n.est t;obtain⟨L2,ps,h1',h2,h3,h4,h5,h6,h7,h8,h9,h10⟩:=n.ex;obtain rfl:L2=L:=by rw[h1]at h1';cases h1';rfl
 obtain⟨n1,n2⟩:=S1.mp h6;obtain⟨gv,sv,rv⟩:=n.st.sh vx _ hv;cases rv;refine⟨Ti _,fun p0 hp0=>?_⟩;have nL:L2≠p0:=fun z=>by rw[z,hp0]at h5;cases h5
 have nP:∀p∈ps,p≠p0:=fun p hp z=>by obtain⟨o,q⟩:=h8.some p hp;rw[z,hp0]at q;cases q
 have lk:(dh ks ps).length=ks.length:=by rw[<- Sx (f:=(·.1)),(gO h9).1,Sx]
 have st0:az H0' (upd H' p0 (.lst [])) σ ρ':=n.st.aside (n.st.same.free hp0) (n.st.bX hp0);have sp0:Stp (ao σs ρs) H0s Hs H0' (upd H' p0 (.lst [])):=n.stp.aside (n.stp.gone hp0);have ro0:aU H0' (upd H' p0 (.lst [])) ps rows:=h8.mono (av.refl _) fun p hp=>aj (nP p hp);unfold Dm.BO at e;refine⟨dh ks ps,SX g,by rw[aj nL];exact h5,rfl,by rw[lk];exact UR h10 (by decide),fun w hw=>?_,fun hw=>?_⟩
 ·rcases u5 g h9 with⟨m,p,f1,f2,f3⟩ | ⟨f1,f2,f3⟩
  ·rw[hw]at f3;cases f3;rw[f1]at e;dsimp only at e;split at e
   case h_2=>cases e
   rename_i row RS;split at e
   case isFalse=>cases e
   rename_i hz;cases e;obtain⟨q,xs,hq,hqx,hqr⟩:=ro0.get RS;rw[f2]at hq;cases hq;have hqm:p∈ps:=Ue f2;refine⟨.inl ⟨rfl,xs,.inl (.inl hqx)⟩,_,sv,p,xs,_,rfl,rfl,hqx,by rw[hqr.length];exact SN hz (by decide),?_⟩;obtain⟨z1,z2,z3⟩:=h7 p hqm;have nLq:L2≠p:=fun z=>n1 (z▸hqm);refine k _ _ ⟨st0.aside z2 z3,sp0.aside z1,n.own,n.fx,L2,ps,h1,h2,h3,h4,by rw[aj nLq,aj nL];exact h5,h6,h7,aU.set (hqr.append (.cons (.int v) .nil)) ro0 n2 f2,h9,h10⟩ t.stp.s0
  ·rw[hw]at f2;cases f2
 ·rcases u5 g h9 with⟨m,p,f1,f2,f3⟩ | ⟨f1,f2,f3⟩
  ·rw[hw]at f3;cases f3
  ·rw[f1]at e;dsimp only at e;split at e
   case isFalse=>cases e
   rename_i hz;cases e;rw[f3];have hg0:(upd (upd H' p0 (.lst [])) L2 (.dK (dh ks ps++[(SX g,V.ref p0)]))) p0=some (.lst []):=by rw[aj (Ne.symm nL)];exact au
   refine⟨.inl ⟨rfl,[],.inl (.inl hg0)⟩,_,sv,p0,[],_,rfl,rfl,hg0,by decide,?_⟩;refine k _ _ ?_ t.stp.s0;refine⟨(st0.aside h3 h4).aside (n.st.same.free hp0) (n.st.bX hp0),(sp0.aside h2).aside (n.stp.gone hp0),n.own,n.fx,L2,ps++[p0],h1,h2,h3,h4,?_,?_,fun p hp=>?_,?_,by rw[SK,SK,h9];rfl,by rw[SK];exact hz⟩
   ·rw[aj nL,au,ua g p0 h9]
   ·rw[S1];refine⟨fun z=>?_,Uh.mpr ⟨n2,by simp,fun a ha b hb=>?_⟩⟩
    ·rcases Te.mp z with z | z
     ·exact n1 z
     ·exact nL (SV.mp z)
    ·rw[SV.mp hb];exact nP a ha
   ·rcases Te.mp hp with hp | hp
    ·exact h7 p hp
    ·rw[SV.mp hp];exact⟨n.stp.gone hp0,n.st.same.free hp0,n.st.bX hp0⟩
   ·refine aU.snoc (xs:=[.int v]) au (.cons (.int v) .nil) (ro0.mono (av.refl _) fun p hp=>?_);rw[aj (nP p hp),aj fun z:p=L2=>n1 (z▸hp)]
noncomputable def tDL(j hx k:Nat)(t:Dm.FT):TS:=fun D σ H=>∃σs ρs H0s Hs H0 ρ1 ks rows ys ρ2,DGs j σs ρs H0s Hs σ ρ1 H0 H ks rows/\ks.length<=Dm.SZ/\Dm.fq (Dm.bN k) t (Dm.eV k) (ks.map Dm.Dat.int) (ρ1++[.un]) []=some (ys,ρ2) /\
 ∀σ' H0' H',DGs j σs ρs H0s Hs σ' ((ρ2.take ρ1.length).set hx (.ow (.lst ys))) H0' H' ks rows->av H0 H0'->D.nx σ' H'
theorem PV{fi:Dm.FI}{bd:Dm.FB}{g:TG}{is:List Nat}{t:Dm.FT}{f:Dm.FE}{ρ':Dm.Env}{ys:List Dm.Dat}{ks':List Int}{rows':List (List Dm.Dat)}(hb:BD is g bd)(hj:j∉is)(n:DGs j σs ρs H0s Hs σ ρ H0 H ks rows)
  (e1:fi ρ=some (ys,ρ1)) (e:Dm.u9 bd hx k vx t f ys ρ1 ks rows=some (ρ',ks',rows')) (c:∀σ' H0' H',DGs j σs ρs H0s Hs σ' ρ' H0' H' ks' rows'->D.nx σ' H'):CB (tDI fi) g (sH (tDL j hx k t) (tDH j vx f)) D σ H:=by
 refine⟨H0,ρ,ys,ρ1,n.st,e1,fun J H00 Hb t1 jw=>?_⟩;refine ⟨fun i m σ' H=>∃ H0 ρ ks rows,DGs j σs ρs H0s Hs σ' ρ H0 H ks rows∧av H00 H0∧m=ys.length-i∧i≤ys.length∧Dm.u9 bd hx k vx t f (ys.drop i) ρ ks rows=some (ρ',ks',rows'),
  ⟨ys.length,H00,ρ1,ks,rows,n.est t1,av.refl _,by simp,Ti _,by simpa using e⟩,?_⟩
 rintro i m σ1 H ⟨H0,ρ,ks,rows,n,s00,rfl,hi,e⟩;obtain⟨js,jg⟩:=jw H0 H s00 n.st.same;by_cases hlt:i<ys.length
 ·have hd:ys[i]?=some ys[i]:=by simp[hlt]
  obtain⟨g1,g2⟩:=jg i ys[i] hd;rw[Ud hlt]at e;unfold Dm.u9 at e;refine .inr ⟨g1,fun σ' H'=>∃H0 ρ ks rows,DGs j σs ρs H0s Hs σ' ρ H0 H' ks rows/\av H00 H0/\Dm.u9 bd hx k vx t f (ys.drop (i+1)) ρ ks rows=some (ρ',ks',rows'),?_,fun x H' y=>?_⟩
  ·rintro σ' H' ⟨H0',ρ2,k2,r2,h1,h2,h3⟩;exact⟨ys.length-(i+1),by omega,H0',ρ2,k2,r2,h1,h2,rfl,hlt,h3⟩
  ·obtain⟨H0',gr,rx⟩:=g2 x H' y;split at e
   ·cases e
   rename_i ρ2 e2;have t2:=ESt.grow n.st gr;have n2:=n.est t2;refine hb H0' H' σ1 ρ ρ2 x ys[i] _ t2.st rx e2 fun σ2 st2 o2 k2 _ f2=>?_;have n3:=n2.bind st2 o2 (k2 j hj) f2;split at e
   case isFalse=>cases e
   rename_i hsz;split at e
   case h_2=>cases e
   rename_i zs ρ3 e3;split at e
   case h_2=>cases e
   rename_i gg ρ4 e4;split at e
   case h_2=>cases e
   rename_i vv e5;split at e
   case h_2=>cases e
   rename_i ks1 qx e6;refine⟨σs,ρs,H0s,Hs,H0',ρ2,ks,rows,zs,ρ3,n3,hsz,e3,fun σ5 H05 H5 n5 s5=>?_⟩;refine⟨σs,ρs,H0s,Hs,H05,_,ρ4,ks,rows,gg,vv,ks1,qx,n5,e4,e5,e6,fun H06 H6 n6 s6=>⟨H06,ρ4,ks1,qx,n6,(s00.trans gr.s0).trans (s5.trans s6),e⟩⟩
 ·have e':i=ys.length:=by omega
  subst e';rw[UJ]at e;cases e;exact .inl ⟨js _ (Sz _),c σ1 H0 H n⟩
theorem PX{fi:Dm.FI}{bd:Dm.FB}{g:TG}{is:List Nat}{t:Dm.FT}{f:Dm.FE}{gs:Dm.FS}(hb:BD is g bd)(hj:j∉is)(hjl:j<σ.length)(h:tDS (Dm.BV j fi bd hx k vx t f gs) D σ H):sH (uF yJ (iO j)) (sH (CB (tDI fi) g (sH (tDL j hx k t) (tDH j vx f))) (tDS gs)) D σ H:=by
 obtain⟨H0,ρ,o,st,e,c⟩:=h;unfold Dm.BV at e;split at e
 ·cases e
 rename_i hj0;split at e
 ·cases e
 rename_i ds ρ1 e1;split at e
 case h_2=>cases e
 rename_i ρ2 ks rows e2;intro L hL;have st1:az H0 (upd H L (.dK [])) σ ρ:=st.aside (st.same.free hL) (st.bX hL);obtain⟨s1,s2⟩:=st1.Mx j (some (.ref L));have n:DGs j σ ρ H0 H (σ.set j (some (.ref L))) (ρ.set j .un) H0 (upd H L (.dK [])) [] []:=
  ⟨s1,(Stp.refl _ _ _).aside hL,fun a z=>.inl (s2 a z),eg fun z=>hj0 (.inl z),L,[],SS hjl,hL,st.same.free hL,fun z=>st.bX hL (s2 L z),au,by simp,by simp,trivial,rfl,Ti _⟩
 refine PV hb hj n e1 e2 fun σ' H0' H' n'=>?_;obtain⟨H5,t5⟩:=n'.done;exact⟨H5,_,o,t5.st,e,c.pre t5⟩
end
section
variable{X:Cx}{rest:List Stmt}
theorem PY(j hx k vx:Nat)(nm:List Str){x y v vn:Str}{px px2 px3 py pv pv1 dp sp sp2 fp lp zb ap2 cp2 ap cp ep:Pos}{tg it ke elt:Expr}{ifs:List Expr}{scope:Scope}{fi:Dm.FI}{is:List Nat}{bd:Dm.FB}{t:Dm.FT}{f:Dm.FE}{gs:Dm.FS}(hN:X.N.Nodup)(hp:PassesOwn (model X.prog X.w) X.A X.env X.xe)(hc:X.calm=true)(hi:DI X tg it fi)(hg:TG' X tg is bd)
  (hgc:TGc X nm scope [v] (.Name v pv1) [k] (Dm.bN k)) (ht:∀cl C s H fp,DTs (bL X nm scope [v] cl C s H fp) ifs t) (he:∀cl C s H fp,DE (bL X nm scope [v] cl C s H fp) elt (Dm.eV k)) (hke:DE X ke f) (hre:DSs X rest gs)
  (hxj:hx≠j:=by decide) (hx0:hx≠0:=by decide) (hk:scope.kind=.function:=by rfl) (hS:qe X.env.scope X.N nm scope=true:=by rfl) (hl:([k].all fun i=>decide (X.N.length<=i))=true:=by rfl)
  (hj:decide (j∈is)=false:=by rfl) (hjn:X.N[j]?=some x:=by rfl) (hyn:X.N[hx]?=some y:=by rfl) (hvn:X.N[vx]?=some vn:=by rfl) (hx':Loc X.env.scope x:=by trivial) (hy:Loc X.env.scope y:=by trivial)
  (hv:Vis X.env.scope x:=by trivial) (hvv:Vis X.env.scope vn:=by trivial)
  (hd:(x == ("__debug__" : Str))=false:=by decide) (hdv:(vn == ("__debug__" : Str))=false:=by decide)
  (hcd:(x == ("__classdict__" : Str))=false:=by decide) (RT:(vn == ("__classdict__" : Str))=false:=by decide)
  (hsx:swapsWith (.Dict [] [] dp) (some (.Name x px)) sp.line X.env=pure false:=by rfl) (hf:X.fn x=true\/X.env.scope.names.lookup x=some .local:=by trivial) (hfy:X.fn y=true\/X.env.scope.names.lookup y=some .local:=by trivial)
  (hsw2:swapsWith (.ListComp elt [⟨.Name v pv1,.Name x px3,ifs,0⟩] scope zb) (some (.Name y py)) sp2.line X.env=pure true:=by rfl) (hs2:∀z,foldedSetIterable (.Name x px3) X.env z=pure z:=by intro _;rfl)
  (m:M2 X (.Name x px2) "setdefault" ap2 ke (.List [] lp) cp2:=by exact⟨rfl,rfl,rfl,rfl⟩)
  (hbase:attributeBase (.Call (.Attribute (.Name x px2) "setdefault" ap2) [ke,.List [] lp] [] cp2) "append" X.env (eval (.Call (.Attribute (.Name x px2) "setdefault" ap2) [ke,.List [] lp] [] cp2) X.env)=eval (.Call (.Attribute (.Name x px2) "setdefault" ap2) [ke,.List [] lp] [] cp2) X.env:=by rfl)
  (hfew:((backTo cp (starEach [.Name vn pv] X.env)).all (fun x=>!x.1)&&(backToKw cp (keywordEach [] X.env)).all (fun x=>x.1.isSome)
   && decide ([Expr.Name vn pv].length+([]:List Keyword).length+(if ([]:List Keyword).isEmpty then 0 else 1)<30))=true:=by rfl)
  (hline:(ap.endLine == cp.line)=true:=by rfl) (hs:starEach [.Name vn pv] X.env=(false,eval (.Name vn pv) X.env)::starEach [] X.env:=by rfl) (hplain:(backTo cp (starEach [] X.env)).any (·.1)=false:=by rfl)
  (hsw:swapsWith (.Call (.Attribute (.Call (.Attribute (.Name x px2) "setdefault" ap2) [ke,.List [] lp] [] cp2) "append" ap) [.Name vn pv] [] cp) none ep.line X.env=pure false:=by rfl)
  (hfs:∀y,foldedSetIterable it X.env y=pure y:=by intro _;rfl) :
  DSs X (.Assign [.Name x px] (.Dict [] [] dp) sp::.For tg it [.Assign [.Name y py] (.ListComp elt [⟨.Name v pv1,.Name x px3,ifs,0⟩] scope zb) sp2,.Expr (.Call (.Attribute (.Call (.Attribute (.Name x px2) "setdefault" ap2) [ke,.List [] lp] [] cp2) "append" ap) [.Name vn pv] [] cp) ep] [] fp::rest) (Dm.BV j fi bd hx k vx t f gs):=by
 obtain⟨g,h1,h2⟩:=hg.ex;obtain⟨gc,h1c,h2c⟩:=hgc.ex;have b1:PS X (.Assign [.Name y py] (.ListComp elt [⟨.Name v pv1,.Name x px3,ifs,0⟩] scope zb) sp2) (tDL j hx k t):=by intro pins s σ H D I q;obtain⟨σs,ρs,H0s,Hs,H0,ρ1,ks,rows,ys,ρ2,n,hsz,e,c⟩:=q;exact Ir (iW hN hyn hy hc (fK.of hS hk) (Iq hjn hv hd hcd) h1c ht he hsw2 hs2 hfy) pins s σ H D I (MK h2c (by rw[I.len];exact wk hl k Sy) n hxj hx0 hsz e c)
 have b2:PS X (.Expr (.Call (.Attribute (.Call (.Attribute (.Name x px2) "setdefault" ap2) [ke,.List [] lp] [] cp2) "append" ap) [.Name vn pv] [] cp) ep) (tDH j vx f):=
  PS.weak (jB (vV Uj US UT jC (Ef (fG hjn hv hd hcd) hke (yG gS) m) (dX (fG hvn hvv hdv RT) gS hs) hbase hfew hline hs hplain) hsw) fun _ _ _=>ML
 have h:=fk (Cv hN hjn hx' v8 hsx hf) (fk (yE (pos:=fp) hp hc hi h1 (fk b1 (uD b2)) hfs) hre);intro pins s σ H D I q;exact h pins s σ H D I (PX h2 (of_decide_eq_false hj) (by rw[I.len];exact(Sw.mp hjn).1) q)
end
end Br
namespace Dm
noncomputable def We(e:FE)(ρ:Env)(Q:Val->Env->Prop):Prop:=∃v ρ',e ρ=some (v,ρ')/\Q v ρ'
noncomputable def Wt(t:FT)(ρ:Env)(Q:Bool->Env->Prop):Prop:=∃v ρ',t ρ=some (v,ρ')/\Q v ρ'
noncomputable def Was(as:List FE)(ρ:Env)(Q:List Val->Env->Prop):Prop:=∃v ρ',eAs as ρ=some (v,ρ')/\Q v ρ'
noncomputable def Wi(it:FI)(ρ:Env)(Q:List Dat->Env->Prop):Prop:=∃v ρ',it ρ=some (v,ρ')/\Q v ρ'
noncomputable def KO(N:Env->Prop)(R:RV->Env->Prop)(B C:Env->Prop):Out->Prop
 |.nx ρ=>N ρ
 |.ret r ρ=>R r ρ
 |.bk ρ=>B ρ
 |.ct ρ=>C ρ
noncomputable def Ws(s:FS)(ρ:Env)(N:Env->Prop)(R:RV->Env->Prop)(B C:Env->Prop):Prop:=∃o,s ρ=some o/\KO N R B C o
noncomputable def Wr(o:Option RV)(P:RV->Prop):Prop:=∃r,o=some r/\P r
noncomputable def Wif(c:Bool)(X Y:Prop):Prop:=(c=true->X)/\(c=false->Y)
noncomputable def Wg1(g:Dat->Option RV)(o:Option Dat)(K:RV->Prop):Prop:=∃d v,o=some d/\g d=some v/\K v
noncomputable def Wg2(g:Dat->Dat->Option RV)(o p:Option Dat)(K:RV->Prop):Prop:=∃d e v,o=some d/\p=some e/\g d e=some v/\K v
noncomputable def WB(g:List Dat->Option RV)(o:Option (List Dat))(K:RV->Prop):Prop:=∃ds v,o=some ds/\g ds=some v/\K v
noncomputable def WT(o:Option (List Dat×Env))(K:List Dat->Env->Prop):Prop:=∃ds ρ,o=some (ds,ρ)/\ds.length<=SZ/\K ds ρ
noncomputable def WF(f:List Dat->Option RV)(ρ:Env)(xs:List Val)(Q:Val->Env->Prop):Prop:=∃ds v,pks ρ xs=some ds/\f ds=some v/\(if iA v.dat then ∃ds' ρ2,tks ρ xs=some (ds',ρ2)/\Q v.cj ρ2 else Q v.cj ρ)
noncomputable def Wk(ρ:Env)(x:Val)(K:Dat->Env->Prop):Prop:=∃d ρ',tk ρ x=some (d,ρ')/\K d ρ'
theorem Wif.t{X Y:Prop}(x:X):Wif true X Y:=⟨fun _=>x,fun h=>by cases h⟩
theorem Wif.f{X Y:Prop}(y:Y):Wif false X Y:=⟨fun h=>(by cases h),fun _=>y⟩
theorem Wif.yes{c:Bool}{X Y:Prop}(h:c=true)(x:X):Wif c X Y:=⟨fun _=>x,fun h'=>by rw[h]at h';cases h'⟩
theorem Wif.no{c:Bool}{X Y:Prop}(h:c=false)(y:Y):Wif c X Y:=⟨fun h'=>(by rw[h]at h';cases h'),fun _=>y⟩
theorem Wif.dec{p:Prop}[Decidable p]{X Y:Prop}(x:p->X)(y:¬p->Y):Wif (decide p) X Y:=⟨fun h=>x (of_decide_eq_true h),fun h=>y (of_decide_eq_false h)⟩
theorem We.v{i:Nat}{ρ:Env}{d:Dat}{Q:Val->Env->Prop}(h:ρ[i]?=some (.sh d))(q:Q (.val d) ρ):We (eV i) ρ Q:=⟨_,_,by unfold eV;rw[h],q⟩
theorem We.w{i:Nat}{ρ:Env}{d:Dat}{Q:Val->Env->Prop}(h:ρ[i]?=some (.ow d))(q:Q (.slot i) ρ):We (eV i) ρ Q:=⟨_,_,by unfold eV;rw[h],q⟩
theorem We.c{d:Dat}{ρ:Env}{Q:Val->Env->Prop}(q:Q (.val d) ρ):We (eC d) ρ Q:=⟨_,_,rfl,q⟩
theorem We.e1{g:Dat->Option RV}{a:FE}{ρ:Env}{Q:Val->Env->Prop}(h:We a ρ fun x ρ1=>Wg1 g (pk ρ1 x) fun v=>Q v.cj ρ1):We (e1 g a) ρ Q:=by obtain⟨x,ρ1,h1,d,v,h2,h3,q⟩:=h;exact⟨_,_,by unfold Dm.e1;rw[h1];dsimp only;rw[h2];dsimp only;rw[h3],q⟩
theorem We.e2{g:Dat->Dat->Option RV}{a b:FE}{ρ:Env}{Q:Val->Env->Prop}(h:We a ρ fun x ρ1=>We b ρ1 fun y ρ2=>Wg2 g (pk ρ2 x) (pk ρ2 y) fun v=>Q v.cj ρ2):We (e2 g a b) ρ Q:=by obtain⟨x,ρ1,h1,y,ρ2,h2,d,e,v,h3,h4,h5,q⟩:=h;exact⟨_,_,by unfold Dm.e2;rw[h1];dsimp only;rw[h2];dsimp only;rw[h3];dsimp only;rw[h4];dsimp only;rw[h5],q⟩
theorem Was.nil{ρ:Env}{Q:List Val->Env->Prop}(q:Q [] ρ):Was [] ρ Q:=⟨_,_,rfl,q⟩
theorem Was.cons{a:FE}{r:List FE}{ρ:Env}{Q:List Val->Env->Prop}(h:We a ρ fun x ρ1=>Was r ρ1 fun xs ρ2=>Q (x::xs) ρ2):Was (a::r) ρ Q:=by obtain⟨x,ρ1,h1,xs,ρ2,h2,q⟩:=h;exact⟨_,_,by unfold eAs;rw[h1];dsimp only;rw[h2],q⟩
theorem We.B{g:List Dat->Option RV}{as:List FE}{ρ:Env}{Q:Val->Env->Prop}(h:Was as ρ fun xs ρ1=>WB g (pks ρ1 xs) fun v=>Q v.cj ρ1):We (eB g as) ρ Q:=by obtain⟨x,ρ1,h1,d,v,h2,h3,q⟩:=h;exact⟨_,_,by unfold eB;rw[h1];dsimp only;rw[h2];dsimp only;rw[h3],q⟩
theorem We.T{as:List FE}{ρ:Env}{Q:Val->Env->Prop}(h:Was as ρ fun xs ρ1=>WT (tks ρ1 xs) fun ds ρ2=>Q (.val (.tup ds)) ρ2):We (b7 as) ρ Q:=by obtain⟨x,ρ1,h1,ds,ρ2,h2,h3,q⟩:=h;exact⟨_,_,by unfold b7;rw[h1];dsimp only;rw[h2];dsimp only;rw[if_pos h3],q⟩
theorem We.L{as:List FE}{ρ:Env}{Q:Val->Env->Prop}(h:Was as ρ fun xs ρ1=>WT (tks ρ1 xs) fun ds ρ2=>Q (.new (.lst ds)) ρ2):We (bP as) ρ Q:=by obtain⟨x,ρ1,h1,ds,ρ2,h2,h3,q⟩:=h;exact⟨_,_,by unfold bP;rw[h1];dsimp only;rw[h2];dsimp only;rw[if_pos h3],q⟩
theorem WT.mk{ρ:Env}{xs:List Val}{ds:List Dat}{ρ2 ρ3:Env}{K:List Dat->Env->Prop}(k:K ds ρ3)(h:tks ρ xs=some (ds,ρ2))(hn:ρ2=ρ3)(hl:ds.length<=SZ):WT (tks ρ xs) K:=⟨_,_,hn▸h,hl,k⟩
theorem We.F{f:List Dat->Option RV}{as:List FE}{ρ:Env}{Q:Val->Env->Prop}(h:Was as ρ fun xs ρ1=>WF f ρ1 xs Q):We (eF f as) ρ Q:=by
 obtain⟨x,ρ1,h1,ds,v,h2,h3,h4⟩:=h;by_cases hb:iA v.dat=true
 ·rw[if_pos hb]at h4;obtain⟨ds',ρ2,h5,q⟩:=h4;exact⟨_,_,by unfold eF;rw[h1];dsimp only;rw[h2];dsimp only;rw[h3];dsimp only;rw[if_pos hb,h5],q⟩
 ·rw[if_neg hb]at h4;exact⟨_,_,by unfold eF;rw[h1];dsimp only;rw[h2];dsimp only;rw[h3];dsimp only;rw[if_neg hb],h4⟩
theorem WF.box{f:List Dat->Option RV}{ρ ρ2 ρ3:Env}{xs:List Val}{ds ds':List Dat}{v:RV}{Q:Val->Env->Prop}(h2:f ds=some v)(q:Q v.cj ρ3)(h1:pks ρ xs=some ds)(h3:iA v.dat=true)(h4:tks ρ xs=some (ds',ρ2))(hn:ρ2=ρ3):WF f ρ xs Q:=
 ⟨_,_,h1,h2,by rw[if_pos h3];exact⟨_,_,h4,hn▸q⟩⟩
theorem WF.val{f:List Dat->Option RV}{ρ:Env}{xs:List Val}{ds:List Dat}{v:RV}{Q:Val->Env->Prop}(h2:f ds=some v)(q:Q v.cj ρ)(h1:pks ρ xs=some ds)(h3:iA v.dat=false):WF f ρ xs Q:=
 ⟨_,_,h1,h2,by rw[if_neg (by rw[h3];decide)];exact q⟩
theorem We.If{t:FT}{a b:FE}{ρ:Env}{Q:Val->Env->Prop}(h:Wt t ρ fun c ρ1=>Wif c (We a ρ1 Q) (We b ρ1 Q)):We (eIf t a b) ρ Q:=by
 obtain⟨c,ρ1,h1,h2,h3⟩:=h;cases c with
 |true=>obtain⟨v,ρ2,h4,q⟩:=h2 rfl;exact⟨_,_,by unfold eIf;rw[h1];exact h4,q⟩
 |false=>obtain⟨v,ρ2,h4,q⟩:=h3 rfl;exact⟨_,_,by unfold eIf;rw[h1];exact h4,q⟩
noncomputable def Wb(v:Val)(K:Bool->Prop):Prop:=∃c,v=.val (.bl c)/\K c
theorem Wb.mk{c:Bool}{K:Bool->Prop}(k:K c):Wb (.val (.bl c)) K:=⟨c,rfl,k⟩
theorem We.And{a b:FE}{ρ:Env}{Q:Val->Env->Prop}(h:We a ρ fun v ρ1=>Wb v fun c=>Wif c (We b ρ1 Q) (Q (.val (.bl false)) ρ1)):We (lX a b) ρ Q:=by
 obtain⟨v,ρ1,h1,c,rfl,h2,h3⟩:=h;cases c with
 |true=>obtain⟨v,ρ2,h4,q⟩:=h2 rfl;exact⟨_,_,by unfold lX;rw[h1];exact h4,q⟩
 |false=>exact⟨_,_,by unfold lX;rw[h1],h3 rfl⟩
theorem We.Or{a b:FE}{ρ:Env}{Q:Val->Env->Prop}(h:We a ρ fun v ρ1=>Wb v fun c=>Wif c (Q (.val (.bl true)) ρ1) (We b ρ1 Q)):We (eOr a b) ρ Q:=by
 obtain⟨v,ρ1,h1,c,rfl,h2,h3⟩:=h;cases c with
 |false=>obtain⟨v,ρ2,h4,q⟩:=h3 rfl;exact⟨_,_,by unfold eOr;rw[h1];exact h4,q⟩
 |true=>exact⟨_,_,by unfold eOr;rw[h1],h2 rfl⟩
theorem We.Not{a:FE}{ρ:Env}{Q:Val->Env->Prop}(h:We a ρ fun v ρ1=>Wb v fun c=>Q (.val (.bl (!c))) ρ1):We (sM a) ρ Q:=by obtain⟨v,ρ1,h1,c,rfl,h2⟩:=h;exact⟨_,_,by unfold sM;rw[h1],h2⟩
theorem Wt.V{a:FE}{ρ:Env}{Q:Bool->Env->Prop}(h:We a ρ fun v ρ1=>Wb v fun c=>Q c ρ1):Wt (tV a) ρ Q:=by obtain⟨v,ρ1,h1,c,rfl,h2⟩:=h;exact⟨_,_,by unfold tV;rw[h1],h2⟩
theorem Wt.Not{t:FT}{ρ:Env}{Q:Bool->Env->Prop}(h:Wt t ρ fun c ρ1=>Q (!c) ρ1):Wt (fh t) ρ Q:=by obtain⟨v,ρ1,h1,h2⟩:=h;exact⟨_,_,by unfold fh;rw[h1],h2⟩
theorem Wt.And{t u:FT}{ρ:Env}{Q:Bool->Env->Prop}(h:Wt t ρ fun c ρ1=>Wif c (Wt u ρ1 Q) (Q false ρ1)):Wt (sF t u) ρ Q:=by
 obtain⟨c,ρ1,h1,h2,h3⟩:=h;cases c with
 |true=>obtain⟨v,ρ2,h4,q⟩:=h2 rfl;exact⟨_,_,by unfold sF;rw[h1];exact h4,q⟩
 |false=>exact⟨_,_,by unfold sF;rw[h1],h3 rfl⟩
theorem Wt.Or{t u:FT}{ρ:Env}{Q:Bool->Env->Prop}(h:Wt t ρ fun c ρ1=>Wif c (Q true ρ1) (Wt u ρ1 Q)):Wt (tOr t u) ρ Q:=by
 obtain⟨c,ρ1,h1,h2,h3⟩:=h;cases c with
 |false=>obtain⟨v,ρ2,h4,q⟩:=h3 rfl;exact⟨_,_,by unfold tOr;rw[h1];exact h4,q⟩
 |true=>exact⟨_,_,by unfold tOr;rw[h1],h2 rfl⟩
theorem Wt.Tr{a:FE}{ρ:Env}{Q:Bool->Env->Prop}(h:We a ρ fun x ρ1=>∃d c,pk ρ1 x=some d/\truth d=some c/\Q c ρ1):Wt (tTr a) ρ Q:=by obtain⟨x,ρ1,h1,d,c,h2,h3,q⟩:=h;exact⟨_,_,by unfold tTr;rw[h1];dsimp only;rw[h2];dsimp only;rw[h3],q⟩
theorem Wt.T{ρ:Env}{Q:Bool->Env->Prop}(q:Q true ρ):Wt gm ρ Q:=⟨_,_,rfl,q⟩
theorem Wk.val{ρ:Env}{d:Dat}{K:Dat->Env->Prop}(k:K d ρ):Wk ρ (.val d) K:=⟨_,_,rfl,k⟩
theorem Wk.new{ρ:Env}{d:Dat}{K:Dat->Env->Prop}(k:K d ρ):Wk ρ (.new d) K:=⟨_,_,rfl,k⟩
theorem Wk.slot{ρ ρ':Env}{i:Nat}{d:Dat}{K:Dat->Env->Prop}(k:K d ρ')(h:ρ[i]?=some (.ow d))(hs:ρ.set i (.sh d)=ρ'):Wk ρ (.slot i) K:=⟨_,_,by unfold tk;dsimp only;rw[h];dsimp only;rw[hs],k⟩
noncomputable def Ek:Dat->Option (List Dat)
 |.lst ds=>some ds
 |.tup ds=>some ds
 |_=>none
theorem Wi.S{a:FE}{ρ:Env}{Q:List Dat->Env->Prop}(h:We a ρ fun x ρ1=>Wk ρ1 x fun d ρ2=>∃ds,Ek d=some ds/\Q ds ρ2):Wi (iS a) ρ Q:=by
 obtain⟨x,ρ1,h1,d,ρ2,h2,ds,hd,q⟩:=h;cases d with
 |lst xs=>cases hd;exact⟨_,_,by unfold iS;rw[h1];dsimp only;rw[h2],q⟩
 |tup xs=>cases hd;exact⟨_,_,by unfold iS;rw[h1];dsimp only;rw[h2],q⟩
 |_=>cases hd
noncomputable def fB(v:Val)(K:Int->Prop):Prop:=∃i,v=.val (.int i)/\K i
theorem fB.mk{i:Int}{K:Int->Prop}(k:K i):fB (.val (.int i)) K:=⟨i,rfl,k⟩
theorem Wi.R1{a:FE}{ρ:Env}{Q:List Dat->Env->Prop}(h:We a ρ fun v ρ1=>fB v fun j=>Q (ups 0 j.toNat) ρ1/\j<=BIG/\-BIG<=j):Wi (iR1 a) ρ Q:=by obtain⟨v,ρ1,h1,j,rfl,q,h2⟩:=h;exact⟨_,_,by unfold iR1;rw[h1];dsimp only;rw[if_pos h2],q⟩
theorem Wi.R2{a b:FE}{ρ:Env}{Q:List Dat->Env->Prop}(h:We a ρ fun v ρ1=>fB v fun i=>We b ρ1 fun w ρ2=>fB w fun j=>Q (ups i (j-i).toNat) ρ2/\j<=BIG/\-BIG<=j/\i<=BIG/\-BIG<=i):Wi (iR2 a b) ρ Q:=by obtain⟨v,ρ1,h1,i,rfl,w,ρ2,h2,j,rfl,q,h3⟩:=h;exact⟨_,_,by unfold iR2;rw[h1];dsimp only;rw[h2];dsimp only;rw[if_pos h3],q⟩
theorem Wi.Rev{a:FE}{ρ:Env}{Q:List Dat->Env->Prop}(h:We a ρ fun x ρ1=>Wk ρ1 x fun d ρ2=>∃ds,d=.lst ds/\Q ds.reverse ρ2):Wi (BG a) ρ Q:=by obtain⟨x,ρ1,h1,d,ρ2,h2,ds,rfl,q⟩:=h;exact⟨_,_,by unfold BG;rw[h1];dsimp only;rw[h2],q⟩
theorem Wi.En{a:FE}{ρ:Env}{Q:List Dat->Env->Prop}(h:We a ρ fun x ρ1=>Wk ρ1 x fun d ρ2=>∃ds,d=.lst ds/\Q (l9 0 ds) ρ2):Wi (iEn a) ρ Q:=by obtain⟨x,ρ1,h1,d,ρ2,h2,ds,rfl,q⟩:=h;exact⟨_,_,by unfold iEn;rw[h1];dsimp only;rw[h2],q⟩
theorem Ws.nx{ρ:Env}{N:Env->Prop}{R:RV->Env->Prop}{B C:Env->Prop}(n:N ρ):Ws sNx ρ N R B C:=⟨_,rfl,n⟩
theorem Ws.seq{s u:FS}{ρ:Env}{N:Env->Prop}{R:RV->Env->Prop}{B C:Env->Prop}(h:Ws s ρ (fun ρ1=>Ws u ρ1 N R B C) R B C):Ws (aD s u) ρ N R B C:=by
 obtain⟨o,h1,h2⟩:=h;cases o with
 |nx ρ1=>obtain⟨o,h3,h4⟩:=h2;exact⟨o,by unfold aD;rw[h1];exact h3,h4⟩
 |ret r ρ1=>exact⟨.ret r ρ1,by unfold aD;rw[h1],h2⟩
 |bk ρ1=>exact⟨.bk ρ1,by unfold aD;rw[h1],h2⟩
 |ct ρ1=>exact⟨.ct ρ1,by unfold aD;rw[h1],h2⟩
noncomputable def WA(i:Nat)(v:Val)(ρ:Env)(N:Env->Prop):Prop:=match v with
 |.new d=>N (ρ.set i (.ow d))
 |x=>Wk ρ x fun d ρ2=>N (ρ2.set i (.sh d))
theorem Ws.A{i:Nat}{e:FE}{ρ:Env}{N:Env->Prop}{R:RV->Env->Prop}{B C:Env->Prop}(h:We e ρ fun v ρ1=>WA i v ρ1 N)(hi:i≠0):Ws (sA i e) ρ N R B C:=by
 obtain⟨v,ρ1,h1,h2⟩:=h;cases v with
 |new d=>exact⟨.nx _,by unfold sA;rw[if_neg hi,h1],h2⟩
 |val d=>obtain⟨d',ρ2,h3,h4⟩:=h2;exact⟨.nx _,by unfold sA;rw[if_neg hi,h1];dsimp only;rw[h3],h4⟩
 |slot j=>obtain⟨d',ρ2,h3,h4⟩:=h2;exact⟨.nx _,by unfold sA;rw[if_neg hi,h1];dsimp only;rw[h3],h4⟩
theorem WA.new{i:Nat}{d:Dat}{ρ ρ2:Env}{N:Env->Prop}(n:N ρ2)(hs:ρ.set i (.ow d)=ρ2):WA i (.new d) ρ N:=by unfold WA;dsimp only;rw[hs];exact n
theorem WA.val{i:Nat}{d:Dat}{ρ ρ2:Env}{N:Env->Prop}(n:N ρ2)(hs:ρ.set i (.sh d)=ρ2):WA i (.val d) ρ N:=⟨_,_,rfl,by show N _;rw[hs];exact n⟩
theorem Ws.U{is:List Nat}{e:FE}{ρ:Env}{N:Env->Prop}{R:RV->Env->Prop}{B C:Env->Prop}(h:We e ρ fun x ρ1=>Wk ρ1 x fun d ρ2=>∃ds ρ3,d=.tup ds/\sets is ds ρ2=some ρ3/\N ρ3):Ws (sU is e) ρ N R B C:=by obtain⟨x,ρ1,h1,d,ρ2,h2,ds,ρ3,rfl,h3,n⟩:=h;exact⟨.nx _,by unfold sU;rw[h1];dsimp only;rw[h2];dsimp only;rw[h3],n⟩
theorem Ws.E{e:FE}{ρ:Env}{N:Env->Prop}{R:RV->Env->Prop}{B C:Env->Prop}(h:We e ρ fun _ ρ1=>N ρ1):Ws (sE e) ρ N R B C:=by obtain⟨x,ρ1,h1,n⟩:=h;exact⟨.nx _,by unfold sE;rw[h1],n⟩
noncomputable def WR(v:Val)(ρ:Env)(R:RV->Env->Prop):Prop:=match v with
 |.new d=>R (.new d) ρ
 |.val d=>R (.val d) ρ
 |.slot i=>(∃d,ρ[i]?=some (.ow d)/\R (.new d) (ρ.set i .un))
theorem Ws.R{e:FE}{ρ:Env}{N:Env->Prop}{R:RV->Env->Prop}{B C:Env->Prop}(h:We e ρ fun v ρ1=>WR v ρ1 R):Ws (sR e) ρ N R B C:=by
 obtain⟨v,ρ1,h1,h2⟩:=h;cases v with
 |new d=>exact⟨.ret _ _,by unfold sR;rw[h1],h2⟩
 |val d=>exact⟨.ret _ _,by unfold sR;rw[h1],h2⟩
 |slot i=>obtain⟨d,h3,h4⟩:=h2;exact⟨.ret _ _,by unfold sR;rw[h1];dsimp only;rw[h3],h4⟩
theorem WR.new{d:Dat}{ρ:Env}{R:RV->Env->Prop}(r:R (.new d) ρ):WR (.new d) ρ R:=r
theorem WR.val{d:Dat}{ρ:Env}{R:RV->Env->Prop}(r:R (.val d) ρ):WR (.val d) ρ R:=r
theorem WR.slot{d:Dat}{ρ:Env}{i:Nat}{R:RV->Env->Prop}(r:R (.new d) (ρ.set i .un))(h:ρ[i]?=some (.ow d)):WR (.slot i) ρ R:=⟨d,h,r⟩
theorem Ws.If{t:FT}{a b:FS}{ρ:Env}{N:Env->Prop}{R:RV->Env->Prop}{B C:Env->Prop}(h:Wt t ρ fun c ρ1=>Wif c (Ws a ρ1 N R B C) (Ws b ρ1 N R B C)):Ws (sIf t a b) ρ N R B C:=by
 obtain⟨c,ρ1,h1,h2,h3⟩:=h;cases c with
 |true=>obtain⟨o,h4,q⟩:=h2 rfl;exact⟨_,by unfold sIf;rw[h1];exact h4,q⟩
 |false=>obtain⟨o,h4,q⟩:=h3 rfl;exact⟨_,by unfold sIf;rw[h1];exact h4,q⟩
theorem Ws.App{i:Nat}{e:FE}{ρ:Env}{N:Env->Prop}{R:RV->Env->Prop}{B C:Env->Prop}{ds0:List Dat}(h:We e ρ fun x ρ1=>Wk ρ1 x fun d ρ2=>∃ds ρ3,ρ2[i]?=some (.ow (.lst ds))/\ρ2.set i (.ow (.lst (ds++[d])))=ρ3/\N ρ3/\ds.length<SZ)(h0:ρ[i]?=some (.ow (.lst ds0))):Ws (uM i e) ρ N R B C:=by obtain⟨x,ρ1,h1,d,ρ2,h2,ds,ρ3,h3,h5,n,h4⟩:=h;exact⟨.nx _,by unfold uM;rw[h0];dsimp only;rw[h1];dsimp only;rw[h2];dsimp only;rw[h3];dsimp only;rw[if_pos h4,h5],n⟩
theorem qy{i:Nat}{d:Dat}{ds:List Dat}{ρ2 ρ3:Env}{N:Env->Prop}(n:N ρ3)(h:ρ2[i]?=some (.ow (.lst ds)))(hs:ρ2.set i (.ow (.lst (ds++[d])))=ρ3)(hl:ds.length<SZ):∃ds ρ3,ρ2[i]?=some (.ow (.lst ds))/\ρ2.set i (.ow (.lst (ds++[d])))=ρ3/\N ρ3/\ds.length<SZ:=⟨_,_,h,hs,n,hl⟩
theorem Ws.Set{i:Nat}{j e:FE}{ρ:Env}{N:Env->Prop}{R:RV->Env->Prop}{B C:Env->Prop}(h:We e ρ fun x ρ1=>Wk ρ1 x fun d ρ2=>(∃d0,ρ2[i]?=some (.ow d0))/\We j ρ2 fun y ρ3=>fB y fun k=>∃ds m ρ4,ρ3[i]?=some (.ow (.lst ds))/\ixN ds.length k=some m/\ρ3.set i (.ow (.lst (ds.set m d)))=ρ4/\N ρ4):Ws (yL i j e) ρ N R B C:=by obtain⟨x,ρ1,h1,d,ρ2,h2,⟨d0,h0⟩,y,ρ3,h3,k,rfl,ds,m,ρ4,h4,h5,h6,n⟩:=h;exact⟨.nx _,by unfold yL;rw[h1];dsimp only;rw[h2];dsimp only;rw[h0];dsimp only;rw[h3];dsimp only;rw[h4];dsimp only;rw[h5];dsimp only;rw[h6],n⟩
theorem Ws.MM{i:Nat}{j e:FE}{ρ:Env}{N:Env->Prop}{R:RV->Env->Prop}{B C:Env->Prop}(h:We e ρ fun x ρ1=>Wk ρ1 x fun d ρ2=>(∃d0,ρ2[i]?=some (.ow d0))/\We j ρ2 fun y ρ3=>fB y fun k=>∃ks vs ρ4,ρ3[i]?=some (.ow (.dct ks vs))/\ρ3.set i (.ow (.dct (nW ks k) (nX ks vs k d)))=ρ4/\N ρ4/\ks.length<SZ):Ws (qi i j e) ρ N R B C:=by obtain⟨x,ρ1,h1,d,ρ2,h2,⟨d0,h0⟩,y,ρ3,h3,k,rfl,ks,vs,ρ4,h4,h5,n,h6⟩:=h;exact⟨.nx _,by unfold qi;rw[h1];dsimp only;rw[h2];dsimp only;rw[h0];dsimp only;rw[h3];dsimp only;rw[h4];dsimp only;rw[if_pos h6,h5],n⟩
theorem u_{i:Nat}{k:Int}{d:Dat}{ks:List Int}{vs:List Dat}{ρ3 ρ4:Env}{N:Env->Prop}(n:N ρ4)(h:ρ3[i]?=some (.ow (.dct ks vs)))(hs:ρ3.set i (.ow (.dct (nW ks k) (nX ks vs k d)))=ρ4)(hl:ks.length<SZ):∃ks vs ρ4,ρ3[i]?=some (.ow (.dct ks vs))/\ρ3.set i (.ow (.dct (nW ks k) (nX ks vs k d)))=ρ4/\N ρ4/\ks.length<SZ:=⟨_,_,_,h,hs,n,hl⟩
theorem Ws.For{it:FI}{bd:FB}{body:FS}{ρ:Env}{N:Env->Prop}{R:RV->Env->Prop}{B C:Env->Prop}(h:Wi it ρ fun ds ρ1=>Ws (ni bd body ds) ρ1 N R B C):Ws (jL it bd body) ρ N R B C:=by obtain⟨ds,ρ1,h1,o,h2,h3⟩:=h;exact⟨o,by unfold jL;rw[h1];exact h2,h3⟩
theorem Ws.inv{α:Type}(enc:α->Dat)(bd:FB)(body:FS)(xs:List α)(ρ:Env)(N:Env->Prop)(R:RV->Env->Prop)(B C:Env->Prop)(I:List α->List α->Env->Prop)
  (h0:I [] xs ρ) (hs:∀p x q ρ,xs=p++x::q->I p (x::q) ρ->∃ρ1,bd (enc x) ρ=some ρ1/\Ws body ρ1 (fun ρ2=>I (p++[x]) q ρ2) R N (fun ρ2=>I (p++[x]) q ρ2)) (he:∀ρ,I xs [] ρ->N ρ):Ws (ni bd body (xs.map enc)) ρ N R B C:=by
 have go:∀(q p:List α) (ρ:Env),xs=p++q->I p q ρ->Ws (ni bd body (q.map enc)) ρ N R B C:=fun q=>by
  induction q with
  |nil=>intro p ρ e i;rw[Tz]at e;exact⟨.nx _,rfl,he ρ (e▸i)⟩
  |cons x q ih=>
   intro p ρ e i;obtain⟨ρ1,h1,o,h2,h3⟩:=hs p x q ρ e i;have e':xs=(p++[x])++q:=by rw[Vm];exact e
   cases o with
   |nx ρ2=>obtain⟨o,h4,h5⟩:=ih _ _ e' h3;exact⟨o,by rw[Dk,ni,h1];dsimp only;rw[h2];exact h4,h5⟩
   |ct ρ2=>obtain⟨o,h4,h5⟩:=ih _ _ e' h3;exact⟨o,by rw[Dk,ni,h1];dsimp only;rw[h2];exact h4,h5⟩
   |bk ρ2=>exact⟨.nx _,by rw[Dk,ni,h1];dsimp only;rw[h2],h3⟩
   |ret r ρ2=>exact⟨.ret _ _,by rw[Dk,ni,h1];dsimp only;rw[h2],h3⟩
 exact go xs [] ρ rfl h0
theorem Wr.fn{n m:Nat}{body:FS}{ds:List Dat}{ρ:Env}{P:RV->Prop}(b:Ws body ρ (fun _=>P (.val .non)) (fun r _=>P r) (fun _=>False) (fun _=>False))(hρ:ds.map Cell.sh++Dp m .un=ρ)(h:ds.length=n):Wr (fn n m body ds) P:=by
 obtain⟨o,h1,h2⟩:=b;cases o with
 |nx ρ1=>exact⟨_,by unfold Dm.fn;rw[if_pos h,hρ,h1],h2⟩
 |ret r ρ1=>exact⟨_,by unfold Dm.fn;rw[if_pos h,hρ,h1],h2⟩
 |bk ρ1=>exact h2.elim
 |ct ρ1=>exact h2.elim
theorem Wr.eq{o:Option RV}{r:RV}(h:Wr o fun x=>x=r):o=some r:=by obtain⟨x,h1,rfl⟩:=h;exact h1
theorem AA{α:Type}(enc:α->Dat)(p:α->Bool)(v:α->Dat)(bd:FB)(t:FT)(el:FE)(mk:Cell->Env)(hb:∀d c,bd d (mk c)=some (mk (.sh d))):∀(xs:List α) (c:Cell) (acc:List Dat),
  (∀x∈xs,t (mk (.sh (enc x)))=some (p x,mk (.sh (enc x))))->(∀x∈xs,p x=true->We el (mk (.sh (enc x))) fun w ρ'=>Wk ρ' w fun d ρ''=>d=v x/\ρ''=mk (.sh (enc x))) ->
  ∃c',fq bd t el (xs.map enc) (mk c) acc=some (acc++(xs.filter p).map v,mk c')
 |[],c,acc,_,_=>⟨c,by simp[fq]⟩
 |x::xs,c,acc,ht,he=>by
  rw[Dk,fq,hb];dsimp only;rw[ht x Sy];have ht':=fun y hy=>ht y (SA _ hy);have he':=fun y hy=>he y (SA _ hy);by_cases h:p x=true
  ·obtain⟨w,ρ',h1,d,ρ'',h2,rfl,rfl⟩:=he x Sy h;rw[h];dsimp only;rw[h1];dsimp only;rw[h2];obtain⟨c',e⟩:=AA enc p v bd t el mk hb xs (.sh (enc x)) (acc++[v x]) ht' he';exact⟨c',by dsimp only;rw[e,TH h];simp⟩
  ·rw[Bool.not_eq_true]at h;rw[h];obtain⟨c',e⟩:=AA enc p v bd t el mk hb xs (.sh (enc x)) acc ht' he';exact⟨c',by dsimp only;rw[e,TF (by rw[h];decide)]⟩
theorem Wt.get{t:FT}{ρ:Env}{c:Bool}(h:Wt t ρ fun c' ρ'=>c'=c/\ρ'=ρ):t ρ=some (c,ρ):=by obtain⟨_,_,h1,rfl,rfl⟩:=h;exact h1
theorem We.Comp{α:Type}(enc:α->Dat)(xs:List α)(p:α->Bool)(v:α->Dat){it:FI}{k:Nat}{t:FT}{el:FE}{ρ ρ1:Env}{Q:Val->Env->Prop}
  (q:Q (.new (.lst ((xs.filter p).map v))) ρ1) (hit:it ρ=some (xs.map enc,ρ1)) (hk:ρ1.length=k) (hk0:k≠0) (hl:xs.length<=SZ)
  (ht:∀x∈xs,Wt t (ρ1++[.sh (enc x)]) fun c ρ'=>c=p x/\ρ'=ρ1++[.sh (enc x)])
  (he:∀x∈xs,p x=true->We el (ρ1++[.sh (enc x)]) fun w ρ'=>Wk ρ' w fun d ρ''=>d=v x/\ρ''=ρ1++[.sh (enc x)]):We (dH it 1 (bN k) t el) ρ Q:=by
 have bd:∀(d:Dat) (c:Cell),bN k d (ρ1++[c])=some (ρ1++[.sh d]):=fun d c=>by unfold bN;rw[if_neg hk0,UG _ _ (by omega)];simp[hk]
 obtain⟨c',e⟩:=AA enc p v (bN k) t el (fun c=>ρ1++[c]) bd xs .un [] (fun x hx=>Wt.get (ht x hx)) he;refine⟨_,_,?_,q⟩;unfold dH;rw[hit];dsimp only;rw[if_pos (by rw[Sx];exact hl)];show (match fq _ _ _ _ (ρ1++[.un]) [] with | none=>none | some (ys,ρ2)=>some (Val.new (.lst ys),ρ2.take ρ1.length))=_;rw[e];dsimp only;rw[Ut,VD]
theorem We.JX{α:Type}(enc:α->Dat)(xs:List α)(p:α->Bool)(v:α->Dat){i:Nat}{k:Nat}{t:FT}{el:FE}{ρ:Env}{Q:Val->Env->Prop}{d:Dat}
  (q:Q (.new (.lst ((xs.filter p).map v))) ρ) (hi:ρ[i]?=some (.sh d)) (hd:Ek d=some (xs.map enc)) (hk:ρ.length=k) (hk0:k≠0) (hl:xs.length<=SZ)
  (ht:∀x∈xs,Wt t (ρ++[.sh (enc x)]) fun c ρ'=>c=p x/\ρ'=ρ++[.sh (enc x)])
  (he:∀x∈xs,p x=true->We el (ρ++[.sh (enc x)]) fun w ρ'=>Wk ρ' w fun d ρ''=>d=v x/\ρ''=ρ++[.sh (enc x)]):We (dm i 1 (bN k) t el) ρ Q:=by
 have hit:iS (eV i) ρ=some (xs.map enc,ρ):=by
  unfold iS eV;rw[hi];cases d with
  |lst ys=>cases hd;rfl
  |tup ys=>cases hd;rfl
  |_=>cases hd
 obtain⟨a,ρ',h1,h2⟩:=We.Comp enc xs p v (Q:=Q) q hit hk hk0 hl ht he;refine⟨a,ρ',?_,h2⟩;unfold dm;rw[hi];exact h1
theorem We.Map{α β:Type}(enc:α->Dat)(xs:List α)(f:α->β)(j_:β->Dat){it:FI}{k:Nat}{el:FE}{ρ ρ1:Env}{Q:Val->Env->Prop}
  (q:Q (.new (.lst ((xs.map f).map j_))) ρ1) (hit:it ρ=some (xs.map enc,ρ1)) (hk:ρ1.length=k) (hk0:k≠0) (hl:xs.length<=SZ)
  (he:∀x∈xs,We el (ρ1++[.sh (enc x)]) fun w ρ'=>Wk ρ' w fun d ρ''=>d=j_ (f x)/\ρ''=ρ1++[.sh (enc x)]):We (dH it 1 (bN k) gm el) ρ Q:=
 We.Comp enc xs (fun _=>true) (fun x=>j_ (f x)) (by rw[List.filter_eq_self.mpr (fun _ _=>rfl)];rw[T7]at q;exact q) hit hk hk0 hl (fun _ _=>Wt.T ⟨rfl,rfl⟩) fun x hx _=>he x hx
theorem We.BX{α β:Type}(enc:α->Dat)(xs:List α)(f:α->β)(j_:β->Dat){i:Nat}{k:Nat}{el:FE}{ρ:Env}{Q:Val->Env->Prop}{d:Dat}
  (q:Q (.new (.lst ((xs.map f).map j_))) ρ) (hi:ρ[i]?=some (.sh d)) (hd:Ek d=some (xs.map enc)) (hk:ρ.length=k) (hk0:k≠0) (hl:xs.length<=SZ)
  (he:∀x∈xs,We el (ρ++[.sh (enc x)]) fun w ρ'=>Wk ρ' w fun d ρ''=>d=j_ (f x)/\ρ''=ρ++[.sh (enc x)]):We (dm i 1 (bN k) gm el) ρ Q:=
 We.JX enc xs (fun _=>true) (fun x=>j_ (f x)) (by rw[List.filter_eq_self.mpr (fun _ _=>rfl)];rw[T7]at q;exact q) hi hd hk hk0 hl (fun _ _=>Wt.T ⟨rfl,rfl⟩) fun x hx _=>he x hx
theorem We.PZ{α β:Type}(enc:α->Dat)(xs:List α)(p:α->Bool)(f:α->β)(j_:β->Dat){i:Nat}{k:Nat}{t:FT}{el:FE}{ρ:Env}{Q:Val->Env->Prop}{d:Dat}
  (q:Q (.new (.lst (((xs.filter p).map f).map j_))) ρ) (hi:ρ[i]?=some (.sh d)) (hd:Ek d=some (xs.map enc)) (hk:ρ.length=k) (hk0:k≠0) (hl:xs.length<=SZ)
  (ht:∀x∈xs,Wt t (ρ++[.sh (enc x)]) fun c ρ'=>c=p x/\ρ'=ρ++[.sh (enc x)])
  (he:∀x∈xs,p x=true->We el (ρ++[.sh (enc x)]) fun w ρ'=>Wk ρ' w fun d ρ''=>d=j_ (f x)/\ρ''=ρ++[.sh (enc x)]):We (dm i 1 (bN k) t el) ρ Q:=
 We.JX enc xs p (fun x=>j_ (f x)) (by rw[T7]at q;exact q) hi hd hk hk0 hl ht he
theorem AB(i j:Int):gEq (.int i) (.int j)=vB (decide (i=j)):=by
 have:(i == j)=decide (i=j):=by by_cases h:i=j<;>simp[h]
 show vB (i == j)=_;rw[this]
theorem vc(i j:Int):gNe (.int i) (.int j)=vB (!decide (i=j)):=by
 have:(i == j)=decide (i=j):=by by_cases h:i=j<;>simp[h]
 show vB (!(i == j))=_;rw[this]
theorem Wg2.eq{i j:Int}{o p:Option Dat}{K:RV->Prop}(k:K (.val (.bl (decide (i=j)))))(ho:o=some (.int i))(hp:p=some (.int j)):Wg2 gEq o p K:=⟨_,_,_,ho,hp,AB i j,k⟩
theorem Wg2.ne{i j:Int}{o p:Option Dat}{K:RV->Prop}(k:K (.val (.bl (!decide (i=j)))))(ho:o=some (.int i))(hp:p=some (.int j)):Wg2 gNe o p K:=⟨_,_,_,ho,hp,vc i j,k⟩
theorem Wg2.lt{i j:Int}{o p:Option Dat}{K:RV->Prop}(k:K (.val (.bl (decide (i<j)))))(ho:o=some (.int i))(hp:p=some (.int j)):Wg2 gLt o p K:=⟨_,_,_,ho,hp,rfl,k⟩
theorem Wg2.le{i j:Int}{o p:Option Dat}{K:RV->Prop}(k:K (.val (.bl (decide (i<=j)))))(ho:o=some (.int i))(hp:p=some (.int j)):Wg2 gLe o p K:=⟨_,_,_,ho,hp,rfl,k⟩
theorem Wg2.gt{i j:Int}{o p:Option Dat}{K:RV->Prop}(k:K (.val (.bl (decide (j<i)))))(ho:o=some (.int i))(hp:p=some (.int j)):Wg2 gGt o p K:=⟨_,_,_,ho,hp,rfl,k⟩
theorem Wg2.ge{i j:Int}{o p:Option Dat}{K:RV->Prop}(k:K (.val (.bl (decide (j<=i)))))(ho:o=some (.int i))(hp:p=some (.int j)):Wg2 gGe o p K:=⟨_,_,_,ho,hp,rfl,k⟩
theorem Wg2.add{i j:Int}{o p:Option Dat}{K:RV->Prop}(k:K (.val (.int (i+j))))(ho:o=some (.int i))(hp:p=some (.int j)):Wg2 dW o p K:=⟨_,_,_,ho,hp,rfl,k⟩
theorem Wg2.Iu{xs ys:List Dat}{o p:Option Dat}{K:RV->Prop}(k:K (.new (.lst (xs++ys))))(ho:o=some (.lst xs))(hp:p=some (.lst ys))(h:xs.length+ys.length<=SZ):Wg2 dW o p K:=⟨_,_,_,ho,hp,by unfold dW;dsimp only;rw[if_pos h],k⟩
theorem Wg2.sub{i j:Int}{o p:Option Dat}{K:RV->Prop}(k:K (.val (.int (i-j))))(ho:o=some (.int i))(hp:p=some (.int j)):Wg2 iF o p K:=⟨_,_,_,ho,hp,rfl,k⟩
theorem Wg2.mul{i j:Int}{o p:Option Dat}{K:RV->Prop}(k:K (.val (.int (i*j))))(ho:o=some (.int i))(hp:p=some (.int j))(h:(-B64<i/\i<B64)\/(-B64<j/\j<B64)):Wg2 j0 o p K:=⟨_,_,_,ho,hp,by unfold j0;dsimp only;rw[if_pos h],k⟩
theorem Wg2.div{i j:Int}{o p:Option Dat}{K:RV->Prop}(k:K (.val (.int (i / j))))(ho:o=some (.int i))(hp:p=some (.int j))(h:0<j/\j<jM):Wg2 yM o p K:=⟨_,_,_,ho,hp,by unfold yM;dsimp only;rw[if_pos h],k⟩
theorem Wg2.mod{i j:Int}{o p:Option Dat}{K:RV->Prop}(k:K (.val (.int (i % j))))(ho:o=some (.int i))(hp:p=some (.int j))(h:0<j):Wg2 j3 o p K:=⟨_,_,_,ho,hp,by unfold j3;dsimp only;rw[if_pos h],k⟩
theorem Wg2.pow{i j z:Int}{o p:Option Dat}{K:RV->Prop}(k:K (.val (.int z)))(ho:o=some (.int i))(hp:p=some (.int j))(h:0<=j/\j<=1000000/\i.natAbs<1000000)(hz:i ^ j.toNat=z):Wg2 iR o p K:=⟨_,_,_,ho,hp,by unfold iR;dsimp only;rw[if_pos h,hz],k⟩
theorem Wg2.ix{d e:Dat}{v:Dat}{o p:Option Dat}{K:RV->Prop}(k:K (.val v))(ho:o=some d)(hp:p=some e)(h:gIx d e=some (.val v)):Wg2 gIx o p K:=⟨_,_,_,ho,hp,h,k⟩
theorem mz{α:Type}(enc:α->Dat)(xs:List α)(i:Int)(h0:0<=i)(h1:i<xs.length):atI (xs.map enc) i=some (enc (xs[i.toNat]'(by omega))):=by unfold atI ixN;rw[Sx,if_pos h0,if_pos h1];show (xs.map enc)[i.toNat]?=_;rw[SM,SI (by omega)];rfl
theorem Wg2.ixL{α:Type}{enc:α->Dat}{xs:List α}{i:Int}{o p:Option Dat}{K:RV->Prop}(h0:0<=i)(h1:i<xs.length)(k:K (.val (enc (xs[i.toNat]'(by omega)))))(ho:o=some (.lst (xs.map enc)))(hp:p=some (.int i)):Wg2 gIx o p K:=
 ⟨_,_,_,ho,hp,by unfold gIx;dsimp only;rw[mz enc xs i h0 h1];rfl,k⟩
theorem Iv(i:Int)(xs:List Int):inD (.int i) (xs.map Dat.int)=decide (i∈xs):=by
 induction xs with
 |nil=>rfl
 |cons x xs ih=>
  have ih':(xs.map Dat.int).any (fun y=>eqD y (.int i))=decide (i∈xs):=ih;unfold inD;rw[Dk,Ui,ih'];show ((x == i)||_)=_;by_cases h:x=i
  ·simp[h]
  ·have h':¬i=x:=fun z=>h z.symm;simp[h,h']
theorem MN(xs:List Int):(xs.map Dat.int).all (okD 7)=true:=by rw[TR];intro d hd;obtain⟨x,_,rfl⟩:=S7.mp hd;rfl
theorem Wg2.P0{i:Int}{xs:List Int}{o p:Option Dat}{K:RV->Prop}(k:K (.val (.bl (!decide (i∈xs)))))(ho:o=some (.int i))(hp:p=some (.lst (xs.map Dat.int))):Wg2 nk o p K:=
 ⟨_,_,_,ho,hp,by unfold nk;dsimp only;rw[show okD 8 (.int i)=true from rfl,MN,Iv];rfl,k⟩
theorem Wg2.din{i:Int}{ks:List Int}{vs:List Dat}{o p:Option Dat}{K:RV->Prop}(k:K (.val (.bl (cL ks vs i).isSome)))(ho:o=some (.int i))(hp:p=some (.dct ks vs)):Wg2 BJ o p K:=⟨_,_,_,ho,hp,rfl,k⟩
theorem Wg2.P1{i:Int}{ks:List Int}{vs:List Dat}{o p:Option Dat}{K:RV->Prop}(k:K (.val (.bl (!(cL ks vs i).isSome))))(ho:o=some (.int i))(hp:p=some (.dct ks vs)):Wg2 wA o p K:=⟨_,_,_,ho,hp,rfl,k⟩
theorem Wg2.dx{i:Int}{ks:List Int}{vs:List Dat}{d:Dat}{o p:Option Dat}{K:RV->Prop}(h:cL ks vs i=some d)(k:K (.val d))(ho:o=some (.dct ks vs))(hp:p=some (.int i)):Wg2 gDx o p K:=⟨_,_,_,ho,hp,by unfold gDx;dsimp only;rw[h];rfl,k⟩
theorem WB.len{xs:List Dat}{o:Option (List Dat)}{K:RV->Prop}(k:K (.val (.int xs.length)))(ho:o=some [.lst xs]):WB iH o K:=⟨_,_,ho,rfl,k⟩
theorem WB.zg{xs:List Dat}{o:Option (List Dat)}{K:RV->Prop}(k:K (.val (.int xs.length)))(ho:o=some [.tup xs]):WB iH o K:=⟨_,_,ho,rfl,k⟩
theorem WB.min2{i j:Int}{o:Option (List Dat)}{K:RV->Prop}(k:K (.val (.int (if j<i then j else i))))(ho:o=some [.int i,.int j]):WB pV o K:=⟨_,_,ho,rfl,k⟩
theorem WB.max2{i j:Int}{o:Option (List Dat)}{K:RV->Prop}(k:K (.val (.int (if j>i then j else i))))(ho:o=some [.int i,.int j]):WB tP o K:=⟨_,_,ho,rfl,k⟩
theorem WB.int{b:Bool}{o:Option (List Dat)}{K:RV->Prop}(k:K (.val (.int (b2i b))))(ho:o=some [.bl b]):WB C0 o K:=⟨_,_,ho,rfl,k⟩
theorem Wg1.mk{g:Dat->Option RV}{d:Dat}{v:RV}{o:Option Dat}{K:RV->Prop}(k:K v)(ho:o=some d)(h:g d=some v):Wg1 g o K:=⟨_,_,ho,h,k⟩
theorem mC{xs:List Dat}{Q:List Dat->Prop}(q:Q xs):∃ds,Ek (.lst xs)=some ds/\Q ds:=⟨_,rfl,q⟩
theorem ndT{p:Prop}[Decidable p](h:(!decide p)=true):¬p:=by intro z;rw[decide_eq_true z]at h;cases h
theorem ndF{p:Prop}[Decidable p](h:(!decide p)=false):p:=UO fun z=>by rw[decide_eq_false z]at h;cases h
theorem P4{α:Type}(enc:α->Dat)(xs:List α)(h:∀x,okD 7 (enc x)=true):okD 8 (.lst (xs.map enc))=true:=by unfold okD;rw[TR];intro d hd;obtain⟨x,_,rfl⟩:=S7.mp hd;exact h x
theorem WB.P5{α:Type}{enc:α->Dat}{xs:List α}{o:Option (List Dat)}{K:RV->Prop}(k:K (.val (.int xs.length)))(ho:o=some [.lst (xs.map enc)]):WB iH o K:=⟨_,_,ho,by unfold iH;dsimp only;rw[Sx],k⟩
theorem Ws.mono{s:FS}{ρ:Env}{N N':Env->Prop}{R:RV->Env->Prop}{B C:Env->Prop}(h:Ws s ρ N' R B C)(k:∀ρ',N' ρ'->N ρ'):Ws s ρ N R B C:=by
 obtain⟨o,h1,h2⟩:=h;cases o with
 |nx ρ1=>exact⟨.nx ρ1,h1,k _ h2⟩
 |ret r ρ1=>exact⟨.ret r ρ1,h1,h2⟩
 |bk ρ1=>exact⟨.bk ρ1,h1,h2⟩
 |ct ρ1=>exact⟨.ct ρ1,h1,h2⟩
theorem zh{ρ:Env}{i:Nat}{d:Dat}{W:Prop}(h:ρ[i]?=some (.ow d))(w:W):(∃d0,ρ[i]?=some (.ow d0))/\W:=⟨⟨d,h⟩,w⟩
theorem We.Dn{ρ:Env}{Q:Val->Env->Prop}(q:Q (.new (.dct [] [])) ρ):We eDn ρ Q:=⟨_,_,rfl,q⟩
theorem We.D1{a b:FE}{ρ:Env}{Q:Val->Env->Prop}(h:We a ρ fun v ρ1=>fB v fun i=>We b ρ1 fun x ρ2=>Wk ρ2 x fun d ρ3=>Q (.new (.dct [i] [d])) ρ3):We (eD1 a b) ρ Q:=by obtain⟨v,ρ1,h1,i,rfl,x,ρ2,h2,d,ρ3,h3,q⟩:=h;exact⟨_,_,by unfold eD1;rw[h1];dsimp only;rw[h2];dsimp only;rw[h3],q⟩
theorem ff{bd:FB}{d:Dat}{ρ ρ1 ρ2:Env}{W:Env->Prop}(h:bd d ρ=some ρ1)(hn:ρ1=ρ2)(w:W ρ2):∃ρ1,bd d ρ=some ρ1/\W ρ1:=⟨ρ1,h,hn▸w⟩
theorem El{α:Type}(enc:α->Dat)(p:α->Bool)(v:α->Dat)(bd:FB)(t:FT)(el:FE)(e0:Env)(env:α->Env)(h0:∀x,bd (enc x) e0=some (env x))(h1:∀x y,bd (enc x) (env y)=some (env x)):∀(xs:List α) (acc:List Dat) (e:Env),(e=e0\/∃y,e=env y) ->
  (∀x∈xs,t (env x)=some (p x,env x))->(∀x∈xs,p x=true->We el (env x) fun w ρ'=>Wk ρ' w fun d ρ''=>d=v x/\ρ''=env x) ->
  ∃e',(e'=e0\/∃y,e'=env y)/\fq bd t el (xs.map enc) e acc=some (acc++(xs.filter p).map v,e')
 |[],acc,e,he,_,_=>⟨e,he,by simp[fq]⟩
 |x::xs,acc,e,he,ht,hel=>by
  have hb:bd (enc x) e=some (env x):=by
   rcases he with rfl | ⟨y,rfl⟩
   ·exact h0 x
   ·exact h1 x y
  rw[Dk,fq,hb];dsimp only;rw[ht x Sy];have ht':=fun y hy=>ht y (SA _ hy);have he':=fun y hy=>hel y (SA _ hy);by_cases h:p x=true
  ·obtain⟨w,ρ',g1,d,ρ'',g2,rfl,rfl⟩:=hel x Sy h;rw[h];dsimp only;rw[g1];dsimp only;rw[g2];obtain⟨e',q,z⟩:=El enc p v bd t el e0 env h0 h1 xs (acc++[v x]) _ (.inr ⟨x,rfl⟩) ht' he';exact⟨e',q,by dsimp only;rw[z,TH h];simp⟩
  ·rw[Bool.not_eq_true]at h;rw[h];obtain⟨e',q,z⟩:=El enc p v bd t el e0 env h0 h1 xs acc _ (.inr ⟨x,rfl⟩) ht' he';exact⟨e',q,by dsimp only;rw[z,TF (by rw[h];decide)]⟩
theorem We.P6{α β:Type}(enc:α->Dat)(xs:List α)(p:α->Bool)(f:α->β)(j_:β->Dat)(env:α->Env){it:FI}{own:Nat}{bd:FB}{t:FT}{el:FE}{ρ ρ1:Env}{Q:Val->Env->Prop}
  (q:Q (.new (.lst (((xs.filter p).map f).map j_))) ρ1) (hit:it ρ=some (xs.map enc,ρ1)) (h0:∀x,bd (enc x) (ρ1++Dp own .un)=some (env x)) (h1:∀x y,bd (enc x) (env y)=some (env x)) (h2:∀x,(env x).take ρ1.length=ρ1) (hl:xs.length<=SZ)
  (ht:∀x∈xs,Wt t (env x) fun c ρ'=>c=p x/\ρ'=env x)
  (he:∀x∈xs,p x=true->We el (env x) fun w ρ'=>Wk ρ' w fun d ρ''=>d=j_ (f x)/\ρ''=env x):We (dH it own bd t el) ρ Q:=by
 obtain⟨e',q',e⟩:=El enc p (fun x=>j_ (f x)) bd t el _ env h0 h1 xs [] _ (.inl rfl) (fun x hx=>Wt.get (ht x hx)) he;refine⟨_,_,?_,q⟩;unfold dH;rw[hit];dsimp only;rw[if_pos (by rw[Sx];exact hl),e];dsimp only;rw[Ut,T7];have:e'.take ρ1.length=ρ1:=by
  rcases q' with rfl | ⟨y,rfl⟩
  ·exact VD
  ·exact h2 y
 rw[this];rfl
theorem WB.tuple{xs:List Dat}{o:Option (List Dat)}{K:RV->Prop}(k:K (.val (.tup xs)))(ho:o=some [.lst xs]):WB j4 o K:=⟨_,_,ho,rfl,k⟩
noncomputable def ltI(a b:Int):Bool:=decide (a<b)
theorem zj(ns:List Int):nZ (ns.map Dat.int)=some ns:=by
 induction ns with
 |nil=>rfl
 |cons m ms ih=>rw[Dk,nZ,ih];rfl
theorem sX(ns:List Int):(iB ltI ns).Pairwise (fun a b=>ltI b a=false):=gY (fun a b c h1 h2=>by simp[ltI]at *;omega) (fun a b h=>by simp[ltI]at *;omega) ns
theorem Ws.wh{t:FT}{body:FS}{N:Env->Prop}{R:RV->Env->Prop}{B C:Env->Prop}(I:Nat->Env->Prop)
  (hs:∀k ρ,I k ρ->Wt t ρ fun c ρ1=>Wif c (Ws body ρ1 (fun ρ2=>∃k',k'<k/\I k' ρ2) R N (fun ρ2=>∃k',k'<k/\I k' ρ2)) (N ρ1)):∀(n k:Nat) (ρ:Env),k<n->I k ρ->Ws (whD t body n) ρ N R B C
 |0,k,_,h,_=>absurd h (Nat.not_lt_zero k)
 |n+1,k,ρ,h,i=>by
  obtain⟨c,ρ1,h1,h2,h3⟩:=hs k ρ i;cases c with
  |false=>exact⟨.nx _,by rw[whD,h1],h3 rfl⟩
  |true=>
   obtain⟨o,h4,h5⟩:=h2 rfl;cases o with
   |nx ρ2=>obtain⟨k',hk,i'⟩:=h5;obtain⟨o,h6,h7⟩:=Ws.wh (N:=N) (R:=R) (B:=B) (C:=C) I hs n k' ρ2 (by omega) i';exact⟨o,by rw[whD,h1];dsimp only;rw[h4];exact h6,h7⟩
   |ct ρ2=>obtain⟨k',hk,i'⟩:=h5;obtain⟨o,h6,h7⟩:=Ws.wh (N:=N) (R:=R) (B:=B) (C:=C) I hs n k' ρ2 (by omega) i';exact⟨o,by rw[whD,h1];dsimp only;rw[h4];exact h6,h7⟩
   |bk ρ2=>exact⟨.nx _,by rw[whD,h1];dsimp only;rw[h4],h5⟩
   |ret r ρ2=>exact⟨.ret _ _,by rw[whD,h1];dsimp only;rw[h4],h5⟩
theorem BY{α:Type}(p:α->Bool)(xs:List α):bools (xs.map fun x=>Dat.bl (p x))=some (xs.map p):=by
 induction xs with
 |nil=>rfl
 |cons x xs ih=>rw[Dk,bools,ih];rfl
theorem WB.all{α:Type}(p:α->Bool){xs:List α}{o:Option (List Dat)}{K:RV->Prop}(k:K (.val (.bl (xs.all p))))(ho:o=some [.lst (xs.map fun x=>Dat.bl (p x))]):WB yN o K:=⟨_,_,ho,by
 unfold yN;dsimp only;rw[BY];have:(xs.map p).all id=xs.all p:=by rw[List.all_map];rfl
 dsimp only;rw[this],k⟩
theorem We.RU{a b:FE}{ρ:Env}{Q:Val->Env->Prop}(h:We a ρ fun x ρ1=>(∃ks vs,pk ρ1 x=some (.dct ks vs))/\We b ρ1 fun y ρ2=>∃ks vs i,pk ρ2 x=some (.dct ks vs)/\pk ρ2 y=some (.int i)/\Q (.val ((cL ks vs i).getD .non)) ρ2):We (nY a b) ρ Q:=by obtain⟨x,ρ1,h1,⟨ks,vs,h2⟩,y,ρ2,h3,ks',vs',i,h4,h5,q⟩:=h;exact⟨_,_,by unfold nY;rw[h1];dsimp only;rw[h2];dsimp only;rw[h3];dsimp only;rw[h4];dsimp only;rw[h5],q⟩
theorem Wg2.isN{d:Dat}{o p:Option Dat}{K:RV->Prop}(k:K (.val (.bl (Dm.isN d))))(ho:o=some d)(hp:p=some .non):Wg2 wB o p K:=⟨_,_,_,ho,hp,by cases d<;>rfl,k⟩
theorem WB.RW{j:Int}{o:Option (List Dat)}{K:RV->Prop}(k:K (.new (.lst (ups 0 j.toNat))))(ho:o=some [.int j])(h:j<=1000000/\-1000000<=j):WB tS o K:=⟨_,_,ho,by unfold tS;dsimp only;rw[if_pos h],k⟩
theorem Ws.cut{s u:FS}{ρ:Env}{N:Env->Prop}{R:RV->Env->Prop}{B C:Env->Prop}(J:Env->Prop)(h1:Ws s ρ J R B C)(h2:∀ρ',J ρ'->Ws u ρ' N R B C):Ws (aD s u) ρ N R B C:=Ws.seq (Ws.mono h1 h2)
noncomputable def WrM(o:Option (RV×Dat))(P:RV->Dat->Prop):Prop:=∃z d,o=some (z,d)/\P z d
theorem WrM.fn{n m:Nat}{body:FS}{d:Dat}{r:List Dat}{ρ:Env}{P:RV->Dat->Prop}(b:Ws body ρ (fun ρ'=>∃d',ρ'[0]?=some (.ow d')/\P (.val .non) d') (fun z ρ'=>∃d',ρ'[0]?=some (.ow d')/\P z d') (fun _=>False) (fun _=>False))(hρ:Cell.ow d::(r.map Cell.sh++Dp m .un)=ρ)(h:(d::r).length=n):WrM (fnM n m body (d::r)) P:=by
 obtain⟨o,h1,h2⟩:=b;cases o with
 |nx ρ1=>obtain⟨d',h3,h4⟩:=h2;exact⟨_,_,by unfold fnM;rw[if_pos h];dsimp only;rw[hρ,h1];dsimp only;rw[h3],h4⟩
 |ret z ρ1=>obtain⟨d',h3,h4⟩:=h2;exact⟨_,_,by unfold fnM;rw[if_pos h];dsimp only;rw[hρ,h1];dsimp only;rw[h3],h4⟩
 |bk ρ1=>exact h2.elim
 |ct ρ1=>exact h2.elim
noncomputable def WFm(f:List Dat->Option (RV×Dat))(j:Nat)(ρ1:Env)(xs:List Val)(Q:Val->Env->Prop):Prop:=
 ∃d1 ds ρ2 d v d',ρ1[j]?=some (.ow d1)/\tks ρ1 xs=some (ds,ρ2)/\ρ2[j]?=some (.ow d)/\f (d::ds)=some (v,d')/\(if (flat v.dat&&yX d')=true then Q v.cj (ρ1.set j (.ow d')) else Q v.cj (ρ2.set j (.ow d')))
theorem We.Fm{f:List Dat->Option (RV×Dat)}{j:Nat}{as:List FE}{ρ:Env}{d0:Dat}{Q:Val->Env->Prop}(h:Was as ρ fun xs ρ1=>WFm f j ρ1 xs Q)(h0:ρ[j]?=some (.ow d0)):We (eFm f j as) ρ Q:=by
 obtain⟨xs,ρ1,h1,d1,ds,ρ2,d,v,d',h2,h3,h4,h5,q⟩:=h;by_cases c:(flat v.dat&&yX d')=true
 ·rw[if_pos c]at q;exact⟨_,_,by unfold eFm;rw[h0];dsimp only;rw[h1];dsimp only;rw[h2];dsimp only;rw[h3];dsimp only;rw[h4];dsimp only;rw[h5];dsimp only;rw[if_pos c],q⟩
 ·rw[if_neg c]at q;exact⟨_,_,by unfold eFm;rw[h0];dsimp only;rw[h1];dsimp only;rw[h2];dsimp only;rw[h3];dsimp only;rw[h4];dsimp only;rw[h5];dsimp only;rw[if_neg c],q⟩
theorem WFm.any{f:List Dat->Option (RV×Dat)}{j:Nat}{ρ1 ρ3:Env}{xs:List Val}{d d':Dat}{ds:List Dat}{v:RV}{Q:Val->Env->Prop}(h5:f (d::ds)=some (v,d'))(q:Q v.cj ρ3)(h2:ρ1[j]?=some (.ow d))(h3:tks ρ1 xs=some (ds,ρ1))(hn:ρ1.set j (.ow d')=ρ3):WFm f j ρ1 xs Q:=
 ⟨_,_,_,_,_,_,h2,h3,h2,h5,by rw[hn];split<;>exact q⟩
theorem We.Fd{f:List Dat->Option RV}{as:List FE}{ρ:Env}{Q:Val->Env->Prop}(h:Was as ρ fun xs ρ1=>∃ds ρ2 v,za ρ1 xs=some (ds,ρ2)/\f ds=some v/\cR v.dat=true/\Q v.cj ρ2):We (eFd f as) ρ Q:=by obtain⟨xs,ρ1,h1,ds,ρ2,v,h2,h3,h4,q⟩:=h;exact⟨_,_,by unfold eFd;rw[h1];dsimp only;rw[h2];dsimp only;rw[h3];dsimp only;rw[if_pos h4],q⟩
theorem nD:∀(xs:List Dat),(∀x∈xs,cR x=true)->i7 xs=true
 |[],_=>by unfold i7;rfl
 |x::xs,h=>by unfold i7;rw[h x Sy,nD xs fun y hy=>h y (SA _ hy)];rfl
theorem jH{α:Type}(enc:α->Dat)(xs:List α)(h:∀x,cR (enc x)=true):cR (.lst (xs.map enc))=true:=by unfold cR;exact nD _ fun d hd=>by obtain⟨x,_,rfl⟩:=S7.mp hd;exact h x
theorem uc(i:Int):cR (.int i)=true:=by unfold cR;rfl
theorem zk(xs:List Int):cR (.lst (xs.map Dat.int))=true:=jH _ _ uc
theorem WB.dict{ks:List Int}{vs:List Dat}{o:Option (List Dat)}{K:RV->Prop}(k:K (.new (.dct ks vs)))(ho:o=some [.dct ks vs]):WB wI o K:=⟨_,_,ho,rfl,k⟩
theorem WB.P7{ks:List Int}{vs:List Dat}{o:Option (List Dat)}{K:RV->Prop}(k:K (.new (.lst ((iB ltI ks).map Dat.int))))(ho:o=some [.dct ks vs])(h:ks.length<=63):WB nA o K:=⟨_,_,ho,by unfold nA;dsimp only;rw[if_pos h];rfl,k⟩
theorem We.P8{i:Nat}{e:FE}{ρ ρ2:Env}{k:Int}{ks:List Int}{vs:List Dat}{d:Dat}{Q:Val->Env->Prop}(hl:cL ks vs k=some d)(q:Q (.val d) ρ2)(h:ρ[i]?=some (.ow (.dct ks vs)))(he:e ρ=some (.val (.int k),ρ))(hs:ρ.set i (.ow (.dct (g6 ks vs k) (g7 ks vs k)))=ρ2):We (qq i e) ρ Q:=⟨_,_,by unfold qq;rw[h];dsimp only;rw[he];dsimp only;rw[h];dsimp only;rw[hl];dsimp only;rw[hs],q⟩
theorem Wi.get{it:FI}{ρ ρ1:Env}{ds:List Dat}(h:Wi it ρ fun x y=>x=ds/\y=ρ1):it ρ=some (ds,ρ1):=by obtain⟨_,_,h1,rfl,rfl⟩:=h;exact h1
theorem We.get{e:FE}{ρ ρ':Env}{v:Val}(h:We e ρ fun x y=>x=v/\y=ρ'):e ρ=some (v,ρ'):=by obtain⟨_,_,h1,rfl,rfl⟩:=h;exact h1
theorem We.Fn{f:List Dat->Option (RV×Dat)}{e0:FE}{as:List FE}{ρ:Env}{Q:Val->Env->Prop}(h:Was (e0::as) ρ fun xs ρ1=>∃d ys ds v d',xs=.new d::ys/\nB ys=some ds/\f (d::ds)=some (v,d')/\Q v.cj ρ1):We (eFn f e0 as) ρ Q:=by obtain⟨xs,ρ1,h1,d,ys,ds,v,d',rfl,h2,h3,q⟩:=h;refine⟨_,_,?_,q⟩;unfold eFn;rw[h1];dsimp only;rw[h2];dsimp only;rw[h3]
end Dm
namespace Fl
structure Tie where
 m:Int
 a:Int
 b:Int
deriving Inhabited
noncomputable def one(b:Bool):Int:=if b then 1 else 0
noncomputable def Ends(t:Tie)(p q:Int):Prop:=t.a≠t.b/\((t.a=p/\t.b=q)\/(t.b=p/\t.a=q))
theorem Ends.symm{t:Tie}{p q:Int}(h:Ends t p q):Ends t q p:=⟨h.1,h.2.symm.imp (fun x=>⟨x.2,x.1⟩) (fun x=>⟨x.2,x.1⟩)⟩
noncomputable abbrev Hd:=Int->Option Int
noncomputable def val(o:Option Int)(t:Tie)(S:Int->Bool):Int:=
 if t.a=t.b then 0 else if o=some t.b then one (S t.a)-one (S t.b) else if o=some t.a then one (S t.b)-one (S t.a) else 0
noncomputable def fC(r:List Tie)(H:Hd)(S:Int->Bool):Int:=match r with
 |[]=>0
 |t::r=>val (H t.m) t S+fC r H S
noncomputable def put(H:Hd)(m:Int)(o:Option Int):Hd:=fun x=>if x=m then o else H x
theorem BZ{r:List Tie}{H H':Hd}{S:Int->Bool}(h:∀t∈r,H t.m=H' t.m):fC r H S=fC r H' S:=by
 induction r with
 |nil=>rfl
 |cons t r ih=>rw[fC,fC,h t Sy,ih fun u hu=>h u (SA _ hu)]
theorem wO{r:List Tie}(nd:(r.map (·.m)).Nodup){t:Tie}(ht:t∈r)(H:Hd)(o:Option Int)(S:Int->Bool):fC r (put H t.m o) S=fC r H S-val (H t.m) t S+val o t S:=by
 induction r with
 |nil=>cases ht
 |cons u r ih=>
  rw[Dk,S1]at nd;rcases SH.mp ht with rfl | ht'
  ·rw[fC,fC];have e1:put H t.m o t.m=o:=by unfold put;rw[if_pos rfl]
   rw[e1,BZ (H:=put H t.m o) (H':=H) fun v hv=>?_]
   ·omega
   ·unfold put;rw[if_neg fun e=>?_];exact nd.1 (S7.mpr ⟨v,hv,e⟩)
  ·have hne:u.m≠t.m:=fun e=>nd.1 (S7.mpr ⟨t,ht',e.symm⟩);rw[fC,fC,ih nd.2 ht'];have e1:put H t.m o u.m=H u.m:=by unfold put;rw[if_neg hne]
   rw[e1];omega
theorem jI{t:Tie}{p q:Int}(h:Ends t p q)(S:Int->Bool):val (some q) t S=one (S p)-one (S q):=by
 obtain⟨h1,h2⟩:=h;unfold val;rw[if_neg h1];rcases h2 with⟨rfl,rfl⟩ | ⟨rfl,rfl⟩
 ·rw[if_pos rfl]
 ·rw[if_neg (by intro e;injection e with e;exact h1 e),if_pos rfl]
theorem i8(t:Tie)(S:Int->Bool):val none t S=0:=by
 unfold val;split
 ·rfl
 ·simp
noncomputable def Ok(r:List Tie)(H:Hd):Prop:=∀t∈r,∀x,H t.m=some x->x=t.a\/x=t.b
noncomputable def i9(H:Hd)(m q:Int):Hd:=put H m (if (H m).isSome then none else some q)
theorem zl{r:List Tie}(nd:(r.map (·.m)).Nodup){H:Hd}(ok:Ok r H){t:Tie}(ht:t∈r){p q:Int}(he:Ends t p q)(hf:H t.m≠some q)(S:Int->Bool) :
  fC r (i9 H t.m q) S=fC r H S+one (S p)-one (S q):=by
 unfold i9;rw[wO nd ht];cases e:H t.m with
 |none=>simp only[Option.isSome_none,Ub,if_false];rw[i8,jI he];omega
 |some x=>
  have hx:=ok t ht x e;have:x=p:=by rw[e]at hf;have hxq:x≠q:=fun z=>hf (by rw[z]);obtain⟨_,h2⟩:=he;omega
  subst this;simp only[Vf,if_true];rw[i8,jI he.symm];omega
theorem uniq{r:List Tie}(nd:(r.map (·.m)).Nodup){u t:Tie}(hu:u∈r)(ht:t∈r)(e:u.m=t.m):u=t:=by
 induction r with
 |nil=>cases hu
 |cons v r ih=>
  rw[Dk,S1]at nd;rcases SH.mp hu with rfl | h1
  ·rcases SH.mp ht with rfl | h2
   ·rfl
   ·exact absurd (S7.mpr ⟨t,h2,e.symm⟩) nd.1
  ·rcases SH.mp ht with rfl | h2
   ·exact absurd (S7.mpr ⟨u,h1,e⟩) nd.1
   ·exact ih nd.2 h1 h2
theorem Em{r:List Tie}(nd:(r.map (·.m)).Nodup){H:Hd}(ok:Ok r H){t:Tie}(ht:t∈r){p q:Int}(he:Ends t p q):Ok r (i9 H t.m q):=by
 intro u hu x hx;unfold i9 put at hx;by_cases e:u.m=t.m
 ·rw[if_pos e]at hx;have:u=t:=uniq nd hu ht e;subst this;split at hx
  ·cases hx
  ·injection hx with hx
   obtain⟨_,h2⟩:=he;omega
 ·rw[if_neg e]at hx;exact ok u hu x hx
noncomputable abbrev Step:=Int×Int
noncomputable def Way(R:Int->Step->Prop):Int->List Step->Int->Prop
 |x,[],y=>x=y
 |x,s::w,y=>R x s/\Way R s.2 w y
theorem Way.snoc{R:Int->Step->Prop}:∀{w:List Step} {x y:Int} {s:Step},Way R x w y->R y s->Way R x (w++[s]) s.2
 |[],_,_,_,h,k=>by cases h;exact⟨k,rfl⟩
 |_::_,_,_,_,h,k=>⟨h.1,Way.snoc h.2 k⟩
theorem Way.mono{R R':Int->Step->Prop}(h:∀p s,R p s->R' p s):∀{w:List Step} {x y:Int},Way R x w y->Way R' x w y
 |[],_,_,k=>k
 |_::_,_,_,k=>⟨h _ _ k.1,Way.mono h k.2⟩
noncomputable def mD(r:List Tie)(p:Int)(s:Step):Prop:=∃t∈r,t.m=s.1/\Ends t p s.2
noncomputable def qz(r:List Tie)(H:Hd)(p:Int)(s:Step):Prop:=mD r p s/\H s.1≠some s.2
noncomputable def Led(r:List Tie)(H:Hd)(p:Int)(s:Step):Prop:=mD r p s/\H s.1=some s.2
theorem nE{r:List Tie}(nd:(r.map (·.m)).Nodup){R:Int->Step->Prop}(hR:∀p s,R p s->mD r p s){x y:Int}{s:Step}{w:List Step}(h:Way R x (s::w) y)(hn:(x::(s::w).map (·.2)).Nodup):∀u∈w,u.1≠s.1:=by
 obtain⟨h1,h2⟩:=h;obtain⟨t,ht,hm,he⟩:=hR _ _ h1;have main:∀(w:List Step) (z:Int),Way R z w y->(∀u∈w,u.2≠x/\u.2≠s.2)->∀u∈w,u.1≠s.1:=fun w=>by
  induction w with
  |nil=>intro z _ _ u hu;cases hu
  |cons v w ih=>
   intro z hw hd u hu;rcases SH.mp hu with rfl | hu
   ·intro e;obtain⟨t',ht',hm',he'⟩:=hR _ _ hw.1;have:=uniq nd ht' ht (by rw[hm',e,hm]);subst this;obtain⟨d1,d2⟩:=hd u Sy;obtain⟨_,he⟩:=he;obtain⟨_,he'⟩:=he';omega
   ·exact ih v.2 hw.2 (fun u hu=>hd u (SA _ hu)) u hu
 rw[Dk,S1,S1]at hn;refine main w s.2 h2 fun u hu=>⟨fun e=>hn.1 ?_,fun e=>hn.2.1 ?_⟩
 ·exact SA _ (S7.mpr ⟨u,hu,e⟩)
 ·exact S7.mpr ⟨u,hu,e⟩
theorem ou{r:List Tie}(nd:(r.map (·.m)).Nodup){R:Int->Step->Prop}(hR:∀p s,R p s->mD r p s){y:Int}:∀{w:List Step} {x:Int},Way R x w y->(x::w.map (·.2)).Nodup->(w.map (·.1)).Nodup
 |[],_,_,_=>by simp
 |s::w,x,h,hn=>by rw[Dk,S1];refine⟨fun e=>?_,ou nd hR h.2 (by rw[Dk,S1]at hn;exact hn.2)⟩;obtain⟨u,hu,e⟩:=S7.mp e;exact nE nd hR h hn u hu e
noncomputable def oz(H:Hd):List Step->Hd
 |[]=>H
 |s::w=>oz (i9 H s.1 s.2) w
theorem wQ{H:Hd}{m q x:Int}(h:x≠m):i9 H m q x=H x:=by unfold i9 put;rw[if_neg h]
theorem kc{r:List Tie}(nd:(r.map (·.m)).Nodup)(S:Int->Bool):∀{w:List Step} {x y:Int} {H:Hd},Ok r H->Way (qz r H) x w y->(x::w.map (·.2)).Nodup ->
  Ok r (oz H w)/\fC r (oz H w) S=fC r H S+one (S x)-one (S y)
 |[],x,y,H,ok,h,_=>by cases h;exact⟨ok,by rw[oz];omega⟩
 |s::w,x,y,H,ok,h,hn=>by
  have hfr:=nE nd (fun p s h=>h.1) h hn;obtain⟨⟨⟨t,ht,hm,he⟩,hf⟩,h2⟩:=h;have ok1:=Em nd ok ht he;have f1:=zl nd ok ht he (by rw[hm];exact hf) S;rw[hm]at ok1 f1;have h3:Way (qz r (i9 H s.1 s.2)) s.2 w y:=by
   have main:∀(w:List Step) (z:Int),(∀u∈w,u.1≠s.1)->Way (qz r H) z w y->Way (qz r (i9 H s.1 s.2)) z w y:=fun w=>by
    induction w with
    |nil=>intro _ _ h;exact h
    |cons u w ih=>intro z hu hw;exact⟨⟨hw.1.1,by rw[wQ (hu u Sy)];exact hw.1.2⟩,ih u.2 (fun v hv=>hu v (SA _ hv)) hw.2⟩
   exact main w s.2 hfr h2
  obtain⟨k1,k2⟩:=kc nd S ok1 h3 (by rw[Dk,S1]at hn;exact hn.2);rw[oz];exact⟨k1,by rw[k2,f1];omega⟩
noncomputable def iC(H:Hd):List Step->Hd
 |[]=>H
 |s::w=>iC (put H s.1 none) w
theorem i_:∀{w:List Step} {H:Hd} {x:Int},(∀u∈w,u.1≠x)->iC H w x=H x
 |[],_,_,_=>rfl
 |s::w,H,x,h=>by rw[iC,i_ fun u hu=>h u (SA _ hu)];unfold put;rw[if_neg fun e=>h s Sy e.symm]
theorem kg:∀{w:List Step} {H:Hd} {x:Int},x∈w.map (·.1)->iC H w x=none
 |[],_,_,h=>by cases h
 |s::w,H,x,h=>by
  rw[iC];by_cases e:x∈w.map (·.1)
  ·exact kg e
  ·rw[i_ fun u hu z=>e (S7.mpr ⟨u,hu,z⟩)];rw[Dk]at h;rcases SH.mp h with rfl | h
   ·unfold put;rw[if_pos rfl]
   ·exact absurd h e
theorem kh{r:List Tie}(nd:(r.map (·.m)).Nodup)(S:Int->Bool):∀{w:List Step} {x y:Int} {H:Hd},Ok r H->Way (Led r H) x w y->(x::w.map (·.2)).Nodup ->
  Ok r (iC H w)/\fC r (iC H w) S=fC r H S-one (S x)+one (S y)
 |[],x,y,H,ok,h,_=>by cases h;exact⟨ok,by rw[iC];omega⟩
 |s::w,x,y,H,ok,h,hn=>by
  have hfr:=nE nd (fun p s h=>h.1) h hn;obtain⟨⟨⟨t,ht,hm,he⟩,hf⟩,h2⟩:=h;have ok1:Ok r (put H s.1 none):=fun u hu z hz=>by
   unfold put at hz;split at hz
   ·cases hz
   ·exact ok u hu z hz
  have f1:=wO nd ht H none S;rw[i8,hm,hf,jI he]at f1;have h3:Way (Led r (put H s.1 none)) s.2 w y:=by
   have main:∀(w:List Step) (z:Int),(∀u∈w,u.1≠s.1)->Way (Led r H) z w y->Way (Led r (put H s.1 none)) z w y:=fun w=>by
    induction w with
    |nil=>intro _ _ h;exact h
    |cons u w ih=>intro z hu hw;exact⟨⟨hw.1.1,by unfold put;rw[if_neg (hu u Sy)];exact hw.1.2⟩,ih u.2 (fun v hv=>hu v (SA _ hv)) hw.2⟩
   exact main w s.2 hfr h2
  obtain⟨k1,k2⟩:=kh nd S ok1 h3 (by rw[Dk,S1]at hn;exact hn.2);rw[iC];exact⟨k1,by rw[k2,f1];omega⟩
noncomputable def over(S:Int->Bool)(t:Tie):Bool:=S t.a != S t.b
theorem Eo{r:List Tie}{H:Hd}{S:Int->Bool}(hc:∀p s,S p=true->qz r H p s->S s.2=true):fC r H S=((r.filter (over S)).length:Nat):=by
 have main:∀(q:List Tie),(∀t∈q,t∈r)->fC q H S=((q.filter (over S)).length:Nat):=fun q=>by
  induction q with
  |nil=>intro _;rfl
  |cons t q ih=>
   intro hq;rw[fC,ih fun u hu=>hq u (SA _ hu)];by_cases ho:over S t=true
   ·rw[TH ho];have hne:t.a≠t.b:=fun e=>by unfold over at ho;rw[e]at ho;simp at ho
    have hv:val (H t.m) t S=1:=by
     unfold over at ho;cases ha:S t.a with
     |true=>
      have hb:S t.b=false:=by rw[ha]at ho;simpa using ho
      have he:Ends t t.a t.b:=⟨hne,.inl ⟨rfl,rfl⟩⟩
      have:H t.m=some t.b:=UO fun e=>by have:=hc t.a (t.m,t.b) ha ⟨⟨t,hq t Sy,rfl,he⟩,e⟩;rw[hb]at this;cases this
      rw[this,jI he,ha,hb];rfl
     |false=>
      have hb:S t.b=true:=by rw[ha]at ho;simpa using ho
      have he:Ends t t.b t.a:=⟨hne,.inr ⟨rfl,rfl⟩⟩
      have:H t.m=some t.a:=UO fun e=>by have:=hc t.b (t.m,t.a) hb ⟨⟨t,hq t Sy,rfl,he⟩,e⟩;rw[ha]at this;cases this
      rw[this,jI he,ha,hb];rfl
    rw[hv,Tt];omega
   ·rw[TF ho];have hv:val (H t.m) t S=0:=by
     unfold over at ho;have:S t.a=S t.b:=by simpa using ho
     unfold val;rw[this];split
     ·rfl
     ·split
      ·omega
      ·split<;>omega
    rw[hv];omega
 exact main r fun _ h=>h
theorem Ep{r:List Tie}{H:Hd}{S:Int->Bool}(ok:Ok r H)(hc:∀p s,S p=true->Led r H p s->S s.2=true):fC r H S<=0:=by
 have main:∀(q:List Tie),(∀t∈q,t∈r)->fC q H S<=0:=fun q=>by
  induction q with
  |nil=>intro _;exact VM _
  |cons t q ih=>
   intro hq;rw[fC];have h1:=ih fun u hu=>hq u (SA _ hu);have hv:val (H t.m) t S<=0:=by
    by_cases hne:t.a=t.b
    ·unfold val;rw[if_pos hne];exact VM _
    cases e:H t.m with
    |none=>rw[i8];exact VM _
    |some x=>
     have key:∀p,Ends t p x->val (some x) t S<=0:=fun p he=>by
      rw[jI he];cases hp:S p with
      |false=>cases S x<;>decide
      |true=>have:=hc p (t.m,x) hp ⟨⟨t,hq t Sy,rfl,he⟩,e⟩;rw[this];decide
     rcases ok t (hq t Sy) x e with rfl | rfl
     ·exact key t.b ⟨hne,.inr ⟨rfl,rfl⟩⟩
     ·exact key t.a ⟨hne,.inl ⟨rfl,rfl⟩⟩
   omega
 exact main r fun _ h=>h
structure Flow(r:List Tie)(H:Hd)(a b:Int)(k:Nat):Prop where
 ok:Ok r H
 eq:∀S,fC r H S=(k:Int)*(one (S a)-one (S b))
theorem Flow.zero(r:List Tie)(a b:Int):Flow r (fun _=>none) a b 0:=⟨fun _ _ _ h=>(by cases h),fun S=>by
 induction r with
 |nil=>simp[fC]
 |cons t r ih=>rw[fC,i8,ih];simp⟩
theorem Flow.more{r:List Tie}(nd:(r.map (·.m)).Nodup){H:Hd}{a b:Int}{k:Nat}(f:Flow r H a b k){w:List Step}(h:Way (qz r H) a w b)(hn:(a::w.map (·.2)).Nodup):Flow r (oz H w) a b (k+1):=
 ⟨(kc nd (fun _=>true) f.ok h hn).1,fun S=>by
  rw[(kc nd S f.ok h hn).2,f.eq S];have:((k+1:Nat):Int)=(k:Int)+1:=by omega
  rw[this,VN];omega⟩
theorem Flow.less{r:List Tie}(nd:(r.map (·.m)).Nodup){H:Hd}{a b:Int}{k:Nat}(f:Flow r H a b (k+1)){w:List Step}(h:Way (Led r H) a w b)(hn:(a::w.map (·.2)).Nodup):Flow r (iC H w) a b k:=
 ⟨(kh nd (fun _=>true) f.ok h hn).1,fun S=>by
  rw[(kh nd S f.ok h hn).2,f.eq S];have:((k+1:Nat):Int)=(k:Int)+1:=by omega
  rw[this,VN];omega⟩
theorem Flow.cut{r:List Tie}{H:Hd}{a b:Int}{k:Nat}(f:Flow r H a b k){S:Int->Bool}(ha:S a=true)(hb:S b=false)(hc:∀p s,S p=true->qz r H p s->S s.2=true):(r.filter (over S)).length=k:=by have h1:=Eo hc;rw[f.eq S,ha,hb]at h1;simp[one]at h1;omega
theorem Flow.reach{r:List Tie}{H:Hd}{a b:Int}{k:Nat}(f:Flow r H a b (k+1)){S:Int->Bool}(ha:S a=true)(hc:∀p s,S p=true->Led r H p s->S s.2=true):S b=true:=by
 cases hb:S b with
 |true=>rfl
 |false=>have h1:=Ep f.ok hc;rw[f.eq S,ha,hb]at h1;simp[one]at h1;omega
end Fl
namespace Dm
theorem WB.minD{ns:List Int}{d:Int}{o:Option (List Dat)}{K:RV->Prop}(k:K (.val (.int (mw ns d))))(ho:o=some [.lst (ns.map Dat.int),.int d]):WB qw o K:=⟨_,_,ho,by unfold qw;dsimp only;rw[zj],k⟩
end Dm
namespace P
open Dm
noncomputable def mE:FN:=
  (nIf (tV (e2 gNe (eV 4) (eV 5))) (BN (y9 (eV 4) (b7 [(eV 3),(eV 5)]))
  (y9 (eV 5) (b7 [(eV 3),(eV 4)]))) nNx)
noncomputable def Iw:List Dat->Option RV:=fn 2 4
  (aD (qp 2 (iR1 (eV 0)) 1 (bN 6) (y_ (iS (eV 1)) (bT [3,4,5])
  mE))
  (sR (eV 2)))
noncomputable def Er:List Dat->Option RV:=fn 2 0
  (sR (dm 0 1 (bN 2) gm (dm 2 1 (bN 3) (tV (e2 gNe (nY (eV 1) (e2 gIx (eV 3) (eC (.int 0)))) (e2 gIx (eV 3) (eC (.int 1))))) (eV 3))))
noncomputable def Es:List Dat->Option RV:=fn 2 0
  (sR (dm 0 1 (bN 2) gm (dm 2 1 (bN 3) (tV (e2 gEq (nY (eV 1) (e2 gIx (eV 3) (eC (.int 0)))) (e2 gIx (eV 3) (eC (.int 1))))) (eV 3))))
noncomputable def JY:FS:=
  (sIf (tV (e2 wA (e2 gIx (eV 5) (eC (.int 1))) (eV 2))) (aD (qi 2 (e2 gIx (eV 5) (eC (.int 1))) (e2 dW (e2 gDx (eV 2) (eV 4)) (bP [(eV 5)])))
  (uM 3 (e2 gIx (eV 5) (eC (.int 1))))) sNx)
noncomputable def JZ:FS:=
  (aD (sA 4 (ny 3 (eC (.int 0))))
  (jL (iS (e2 gIx (eV 0) (eV 4))) (bN 5)
  JY))
noncomputable def wR:List Dat->Option RV:=fn 2 4
  (aD (sA 2 (eD1 (eV 1) (bP [])))
  (aD (sA 3 (bP [(eV 1)]))
  (aD (whD (tTr (eV 3))
  JZ 100)
  (sR (eV 2)))))
noncomputable def J0:FS:=
  (sIf (tV (e2 BJ (eV 2) (eV 0))) (sE (qq 0 (eV 2))) (qi 0 (eV 2) (eV 3)))
noncomputable def Et:List Dat->Option (RV×Dat):=fnM 2 2
  (jL (iS (eV 1)) (bT [2,3])
  J0)
noncomputable def J2:FS:=
  (sE (qq 5 (eV 9)))
noncomputable def J3:FS:=
  (aD (sA 8 (dH (iS (e2 gDx (eF wR [(eFd Es [(eV 0),(eV 5)]),(eV 2)]) (eV 3))) 1 (bN 10) gm (e2 gIx (eV 10) (eC (.int 0)))))
  (aD (jL (iS (eV 8)) (bN 9)
  J2)
  (uM 6 (eV 8))))
noncomputable def B0:List Dat->Option RV:=fn 5 5
  (aD (sA 5 (eB wI [(eV 1)]))
  (aD (sA 6 (bP []))
  (aD (jL (iR1 (eV 4)) (bN 7)
  J3)
  (sR (eV 6)))))
noncomputable def J4:FS:=
  (aD (sA 9 (eF wR [(eFd Er [(eV 5),(eV 6)]),(eV 2)]))
  (sIf (tV (e2 BJ (eV 3) (eV 9))) (aD (sE (eFm Et 6 [(e2 gDx (eV 9) (eV 3))]))
  (sA 8 (e2 dW (eV 8) (eC (.int 1))))) (sA 7 (eB j4 [(eB nA [(eV 9)])]))))
noncomputable def wU:List Dat->Option RV:=fn 5 5
  (aD (sA 5 (eF Iw [(eV 0),(eV 1)]))
  (aD (sA 6 eDn)
  (aD (sA 7 (eC .non))
  (aD (sA 8 (eC (.int 0)))
  (aD (whD (sF (tV (e2 gLt (eV 8) (eV 4))) (tV (e2 wB (eV 7) (eC .non))))
  J4 100)
  (sR (b7 [(eFd B0 [(eV 5),(eV 6),(eV 2),(eV 3),(eV 8)]),(eV 7)])))))))
noncomputable def iJ:List Dat->Option RV:=fn 5 0
  (sR (e2 wB (e2 gIx (eF wU [(eV 0),(eV 1),(eV 2),(eV 3),(eV 4)]) (eC (.int 1))) (eC .non)))
noncomputable def Eu:List Dat->Option RV:=fn 1 0
  (sR (lX (e1 (sN isI) (eV 0)) (sM (e1 (sN isB) (eV 0)))))
noncomputable def f_:List Dat->Option RV:=fn 3 0
  (sR (lX (eF Eu [(eV 0)]) (j5 gLe gLe (eV 1) (eV 0) (eV 2))))
noncomputable def qA:List Dat->Option RV:=fn 1 0
  (sR (eF f_ [(eV 0),(eC (.int 1)),(eC (.int 10))]))
noncomputable def fO:List Dat->Option RV:=fn 2 0
  (sR (eF f_ [(eV 1),(eC (.int 0)),(e2 iF (eV 0) (eC (.int 1)))]))
noncomputable def ja:List Dat->Option RV:=fn 1 0
  (sR (eF f_ [(eV 0),(eC (.int 1)),(eC (.int 6))]))
noncomputable def oA:List Dat->Option RV:=fn 1 0
  (sR (eF f_ [(eV 0),(eC (.int 0)),(e2 iR (eC (.int 10)) (eC (.int 30)))]))
noncomputable def mF:List Dat->Option RV:=fn 2 0
  (aD (sIf (tOr (fh (tV (e1 (sN isT) (eV 1)))) (tV (e2 gNe (eB iH [(eV 1)]) (eC (.int 3))))) (sR (eC (.bl false))) sNx)
  (sR (lX (eF oA [(e2 gIx (eV 1) (eC (.int 0)))]) (lX (eF fO [(eV 0),(e2 gIx (eV 1) (eC (.int 1)))]) (eF fO [(eV 0),(e2 gIx (eV 1) (eC (.int 2)))])))))
noncomputable def qB:List Dat->Option RV:=fn 2 0
  (sR (lX (eF mF [(eV 0),(eV 1)]) (e2 gLe (e2 gIx (eV 1) (eC (.int 1))) (e2 gIx (eV 1) (eC (.int 2))))))
noncomputable def AD:List Dat->Option RV:=fn 1 0
  (sR (eB yN [(dH (iR2 (eC (.int 1)) (eB iH [(eV 0)])) 1 (bN 1) gm (e2 gLt (e2 gIx (eV 0) (e2 iF (eV 1) (eC (.int 1)))) (e2 gIx (eV 0) (eV 1))))]))
noncomputable def eT:List Dat->Option RV:=fn 3 0
  (sR (lX (eF fO [(eV 0),(eV 1)]) (lX (eF fO [(eV 0),(eV 2)]) (e2 gNe (eV 1) (eV 2)))))
noncomputable def AE:List Dat->Option RV:=fn 1 0
  (sIf (fh (tV (eF ja [(eV 0)]))) (fun _=>none) sNx)
noncomputable def Ew:List Dat->Option RV:=fn 3 0
  (sIf (fh (tV (eF eT [(eV 0),(eV 1),(eV 2)]))) (fun _=>none) sNx)
noncomputable def cB:List Dat->Bool:=fnX 3 0
  (rIf (fh (tV (eF eT [(eV 0),(eV 1),(eV 2)]))) HF rNo)
noncomputable def AF:List Dat->Option RV:=fn 3 0
  (sR (dm 0 1 (bN 3) gm (eIf (tV (e2 gEq (eV 3) (e2 gIx (eV 0) (eV 2)))) (e2 gIx (eV 0) (eV 1)) (eV 3))))
noncomputable def Ex:FS:=
  (sIf (tV (e2 gNe (e2 gIx (eV 4) (eV 1)) (e2 gIx (eV 4) (eV 2)))) (sR (e2 dW (eV 3) (eC (.int 1)))) sNx)
noncomputable def wV:List Dat->Option RV:=fn 3 2
  (aD (jL (iEn (eV 0)) (bT [3,4])
  Ex)
  (sR (eC (.int 0))))
noncomputable def Ey:FS:=
  (aD (sA 8 (eF wV [(eV 3),(eV 6),(eV 7)]))
  (aD (sIf (tV (e2 gGt (eV 8) (eC (.int 0)))) (yL 3 (e2 iF (eV 8) (eC (.int 1))) (eF AF [(e2 gIx (eV 3) (e2 iF (eV 8) (eC (.int 1)))),(eV 6),(eV 7)])) sNx)
  (uM 4 (eV 8))))
noncomputable def ud:List Dat->Option RV:=fn 3 6
  (aD (sE (eF AE [(eV 2)]))
  (aD (sA 3 (dH (iR1 (eV 2)) 1 (bN 9) gm (eB tS [(eV 0)])))
  (aD (sA 4 (bP []))
  (aD (jL (BG (eV 1)) (bT [5,6,7])
  Ey)
  (sR (e1 qf (eV 4)))))))
noncomputable def jb:List Dat->Option RV:=fn 2 0
  (aD (sIf (tOr (fh (tV (eF qA [(eV 0)]))) (tOr (fh (tV (e1 (sN isL) (eV 1)))) (tV (e2 gGt (eB iH [(eV 1)]) (eC (.int 60)))))) (sR (eC (.bl false))) sNx)
  (aD (sIf (fh (tV (eB yN [(dm 1 1 (bN 2) gm (eF qB [(eV 0),(eV 2)]))]))) (sR (eC (.bl false))) sNx)
  (sR (eF AD [(dm 1 1 (bN 2) gm (e2 gIx (eV 2) (eC (.int 0))))]))))
noncomputable def ue:List Dat->Option RV:=fn 2 0
  (sR (dm 0 1 (bN 2) (tV (e2 gGe (e2 gIx (eV 2) (eC (.int 0))) (eV 1))) (eV 2)))
noncomputable def cM:List Dat->Option RV:=fn 1 0
  (aD (sIf (tOr (fh (tV (e1 (sN isT) (eV 0)))) (tV (e2 gNe (eB iH [(eV 0)]) (eC (.int 3))))) (sR (eC (.bl false))) sNx)
  (aD (sIf (tOr (fh (tV (eF ja [(e2 gIx (eV 0) (eC (.int 1)))]))) (fh (tV (eF jb [(e2 gIx (eV 0) (eC (.int 0))),(e2 gIx (eV 0) (eC (.int 2)))])))) (sR (eC (.bl false))) sNx)
  (sR (e2 nk (eC (.int 0)) (eF ud [(e2 gIx (eV 0) (eC (.int 0))),(e2 gIx (eV 0) (eC (.int 2))),(e2 gIx (eV 0) (eC (.int 1)))])))))
noncomputable def oB:List Dat->Option RV:=fn 1 0
  (sIf (fh (tV (eF cM [(eV 0)]))) (fun _=>none) sNx)
noncomputable def b9:List Dat->Bool:=fnX 1 0
  (rIf (fh (tV (eF cM [(eV 0)]))) HF rNo)
noncomputable def jc:List Dat->Option RV:=fn 2 0
  (aD (sE (eF oB [(eV 0)]))
  (sIf (fh (tV (eF f_ [(eV 1),(eC (.int 1)),(e2 gIx (eV 0) (eC (.int 1)))]))) (fun _=>none) sNx))
noncomputable def aM:List Dat->Bool:=fnX 2 0
  (bA b9 [(eV 0)])
noncomputable def aI:List Dat->Bool:=fnX 2 0
  (sW (sE (eF oB [(eV 0)])) (rIf (fh (tV (eF f_ [(eV 1),(eC (.int 1)),(e2 gIx (eV 0) (eC (.int 1)))]))) HF rNo))
noncomputable def AG:List Dat->Option RV:=fn 3 1
  (aD (sA 3 (eF ud [(eV 0),(eV 1),(eV 2)]))
  (sR (b7 [(eV 0),(eV 2),(dH (HB (eV 1) (eV 3)) 2 (bT [4,5]) (tV (e2 gGt (eV 5) (eC (.int 0)))) (eV 4))])))
noncomputable def jd:List Dat->Option RV:=fn 3 4
  (aD (sE (eF jc [(eV 0),(eV 1)]))
  (aD (sA 3 (eF ue [(e2 gIx (eV 0) (eC (.int 2))),(eV 2)]))
  (BV 4 (iR1 (e2 gIx (eV 0) (eC (.int 0)))) (bN 5) 6 7 5 (tV (eF iJ [(e2 gIx (eV 0) (eC (.int 0))),(eV 3),(eV 7),(eV 5),(eV 1)])) (eB qw ([(eV 6)]++[(eV 5)]))
  (sR (dH (Ax 4) 1 (bN 7) gm (eB j4 [(eV 7)]))))))
noncomputable def aX:List Dat->Bool:=fnX 3 4
  (bA aM [(eV 0),(eV 1)])
noncomputable def bD:List Dat->Bool:=fnX 3 4
  (bA aI [(eV 0),(eV 1)])
noncomputable def MO:FS:=
  (aD (sA 7 (e2 yM (e2 dW (eV 5) (eV 6)) (eC (.int 2))))
  (sIf (tV (eF iJ [(eV 0),(eSl (eV 1) (some (eV 7)) none),(eV 2),(eV 3),(eV 4)])) (sA 5 (eV 7)) (sA 6 (eV 7))))
noncomputable def Ez:List Dat->Option RV:=fn 5 3
  (aD (sIf (fh (tV (eF iJ [(eV 0),(eV 1),(eV 2),(eV 3),(eV 4)]))) (sR (eC .non)) sNx)
  (aD (sA 5 (eC (.int 0)))
  (aD (sA 6 (eB iH [(eV 1)]))
  (aD (whD (tV (e2 gGt (e2 iF (eV 6) (eV 5)) (eC (.int 1))))
  MO 100)
  (sR (e2 gIx (e2 gIx (eV 1) (eV 5)) (eC (.int 0))))))))
noncomputable def mG:List Dat->Option RV:=fn 4 3
  (aD (sE (eF jc [(eV 0),(eV 3)]))
  (aD (sE (eF Ew [(e2 gIx (eV 0) (eC (.int 0))),(eV 1),(eV 2)]))
  (aD (sA 4 (eF Ez [(e2 gIx (eV 0) (eC (.int 0))),(e2 gIx (eV 0) (eC (.int 2))),(eV 1),(eV 2),(eV 3)]))
  (aD (sIf (tV (e2 wB (eV 4) (eC .non))) (sR (b7 [(eC (.str [110,101,118,101,114])),(e2 gIx (eF wU [(e2 gIx (eV 0) (eC (.int 0))),(e2 gIx (eV 0) (eC (.int 2))),(eV 1),(eV 2),(eV 3)]) (eC (.int 1)))])) sNx)
  (aD (sA 5 (e2 gIx (eF wU [(e2 gIx (eV 0) (eC (.int 0))),(eF ue [(e2 gIx (eV 0) (eC (.int 2))),(eV 4)]),(eV 1),(eV 2),(eV 3)]) (eC (.int 0))))
  (aD (sA 6 (e2 gIx (eF wU [(e2 gIx (eV 0) (eC (.int 0))),(eF ue [(e2 gIx (eV 0) (eC (.int 2))),(e2 dW (eV 4) (eC (.int 1)))]),(eV 1),(eV 2),(eV 3)]) (eC (.int 1))))
  (sR (b7 [(eC (.str [115,105,110,99,101])),(eV 4),(eV 5),(eV 6)]))))))))
noncomputable def bI:List Dat->Bool:=fnX 4 3
  (bA aM [(eV 0),(eV 3)])
noncomputable def bu:List Dat->Bool:=fnX 4 3
  (bA aI [(eV 0),(eV 3)])
noncomputable def cT:List Dat->Bool:=fnX 4 3
  (sW (sE (eF jc [(eV 0),(eV 3)])) (bA cB [(e2 gIx (eV 0) (eC (.int 0))),(eV 1),(eV 2)]))
noncomputable def J_:List Dat->Option RV:=fn 3 2
  (aD (sA 3 (dH (iR1 (eV 2)) 1 (bN 5) gm (eF Ez [(e2 gIx (eV 0) (eC (.int 0))),(e2 gIx (eV 0) (eC (.int 2))),(eV 5),(eV 2),(eV 1)])))
  (aD (sA 4 (dH (iEn (eV 3)) 2 (bT [5,6]) (tV (e2 An (eV 6) (eC .non))) (b7 [(eV 6),(eV 5),(eV 2)])))
  (sR (eIf (tV (e2 gGt (eB iH [(eV 4)]) (eC (.int 0)))) (bP [(eB As [(eV 4)])]) (bP [])))))
noncomputable def MP:FS:=
  (HE 2 (eF J_ [(eV 0),(eV 1),(eV 3)]))
noncomputable def oE:List Dat->Option RV:=fn 2 2
  (aD (sE (eF jc [(eV 0),(eV 1)]))
  (aD (sA 2 (bP []))
  (aD (jL (iR2 (eC (.int 1)) (e2 gIx (eV 0) (eC (.int 0)))) (bN 3)
  MP)
  (sR (eV 2)))))
noncomputable def bB:List Dat->Bool:=fnX 2 2
  (bA aM [(eV 0),(eV 1)])
noncomputable def bM:List Dat->Bool:=fnX 2 2
  (bA aI [(eV 0),(eV 1)])
noncomputable def EA:FS:=
  (aD (sA 3 (e2 j3 (e2 dW (e2 dW (e2 j0 (eV 3) (eC (.int 48271))) (e2 j0 (eC (.int 7919)) (eV 5))) (eC (.int 3))) (eC (.int 2147483629))))
  (aD (sA 3 (e2 j3 (e2 j0 (eV 3) (eV 3)) (eC (.int 2147483587))))
  (sA 4 (e2 dW (e2 j0 (eV 4) (eC (.int 2147483587))) (e2 j3 (e2 dW (e2 j0 (eV 3) (eC (.int 69621))) (eV 1)) (eC (.int 2147483587)))))))
noncomputable def qC:List Dat->Option RV:=fn 2 4
  (aD (sA 2 (eC (.int 0)))
  (aD (sIf (tV (e2 gLt (eV 1) (eB iH [(eV 0)]))) (sA 2 (e2 gIx (eV 0) (eV 1))) sNx)
  (aD (sIf (tV (e2 gGe (eV 2) (e2 iR (eC (.int 10)) (eC (.int 18))))) (sR (bP [(e2 j3 (eV 2) (e2 mq (e2 mq (e2 mq (e2 mq (e2 iR (eC (.int 10)) (eC (.int 60))) (e2 iR (eC (.int 10)) (eC (.int 60)))) (e2 iR (eC (.int 10)) (eC (.int 60)))) (e2 iR (eC (.int 10)) (eC (.int 60)))) (e2 iR (eC (.int 10)) (eC (.int 60)))))])) sNx)
  (aD (sA 3 (e2 j3 (e2 dW (e2 dW (e2 dW (eV 2) (e2 j0 (e2 j0 (eC (.int 104729)) (eV 1)) (eV 1))) (e2 j0 (eC (.int 7)) (eV 1))) (eC (.int 11))) (eC (.int 2147483647))))
  (aD (sA 4 (eC (.int 0)))
  (aD (jL (iR1 (eC (.int 40))) (bN 5)
  EA)
  (sR (bP [(eV 4)]))))))))
noncomputable def cU:List Dat->Option (RV×Dat):=fnM 2 1
  (aD (sA 2 (e2 j3 (e2 gIx (eV 0) (eC (.int 0))) (eV 1)))
  (aD (yL 0 (eC (.int 0)) (e2 yM (e2 gIx (eV 0) (eC (.int 0))) (eV 1)))
  (sR (eV 2))))
noncomputable def wW:List Dat->Option (RV×Dat):=fnM 1 0
  (sR (e2 gIx (bP [(eC (.int 1)),(eC (.int 2)),(eC (.int 3)),(eC (.int 4)),(eC (.int 5)),(eC (.int 6)),(eC (.int 4)),(eC (.int 10))]) (eFm cU 0 [(eC (.int 8))])))
noncomputable def EB:FS:=
  (aD (sA 11 (eFm cU 0 [(eV 1)]))
  (aD (sA 12 (eFm cU 0 [(eV 1)]))
  (aD (sIf (tV (e2 gEq (eV 7) (eC (.int 1)))) (sA 12 (e2 j3 (e2 dW (eV 11) (eC (.int 1))) (eV 1))) sNx)
  (aD (sIf (tV (e2 gEq (eV 7) (eC (.int 2)))) (sA 12 (e2 j3 (e2 j3 (e2 dW (e2 dW (eV 11) (e2 j3 (eV 12) (eC (.int 2)))) (eC (.int 1))) (eB pV [(eV 1),(eC (.int 3))])) (eV 1))) sNx)
  (aD (uM 9 (b7 [(eV 8),(eB pV [(eV 11),(eV 12)]),(eB tP [(eV 11),(eV 12)])]))
  (sA 8 (e2 dW (e2 dW (eV 8) (eC (.int 1))) (e2 j0 (eFm cU 0 [(eV 5)]) (eV 6)))))))))
noncomputable def wX:List Dat->Option (RV×Dat):=fnM 3 10
  (aD (sA 3 (eFm cU 0 [(e2 dW (eV 2) (eC (.int 1)))]))
  (aD (sA 4 (eFm cU 0 [(eC (.int 4))]))
  (aD (sA 5 (e2 gIx (bP [(eC (.int 1)),(eC (.int 3)),(e2 iR (eC (.int 10)) (eC (.int 6))),(eC (.int 1000))]) (eV 4)))
  (aD (sA 6 (e2 gIx (bP [(eC (.int 1)),(e2 iR (eC (.int 10)) (eC (.int 25)))]) (eB C0 [(e2 gEq (eV 4) (eC (.int 3)))])))
  (aD (sA 7 (eFm cU 0 [(eC (.int 4))]))
  (aD (sA 8 (e2 j0 (eFm cU 0 [(eV 5)]) (eV 6)))
  (aD (sA 9 (bP []))
  (aD (jL (iR1 (eV 3)) (bN 10)
  EB)
  (sR (eV 9))))))))))
noncomputable def uf:List Dat->Option (RV×Dat):=fnM 1 1
  (aD (sA 1 (bP [(eC .non),(eC (.bl true)),(eC (.bl false)),(eC (.str [48])),(bP [(eC (.int 0))]),(b7 [(eC (.int 0))]),(e2 iF (e2 iF (eC (.int 0)) (eC (.int 1))) (eFm cU 0 [(e2 iR (eC (.int 10)) (eC (.int 12)))])),(e2 dW (eC (.int 10)) (eFm cU 0 [(e2 iR (eC (.int 10)) (eC (.int 12)))])),(eC (.str []))]))
  (sR (e2 gIx (eV 1) (eFm cU 0 [(eB iH [(eV 1)])]))))
noncomputable def wY:List Dat->Option (RV×Dat):=fnM 2 4
  (aD (sU [2,3,4] (eV 1))
  (aD (sA 5 (bP [(eC .non),(bP []),(b7 []),(eB v9 [(eV 1)]),(b7 [(eV 2),(eV 3)]),(b7 [(eV 2),(eV 3),(eV 4),(eC (.int 0))]),(b7 [(eC (.bl true)),(eV 3),(bP [])]),(b7 [(eV 2),(eC (.bl true)),(bP [])]),(b7 [(eC (.int 0)),(eV 3),(bP [])]),(b7 [(eV 2),(eC (.int 0)),(bP [])])]))
  (aD (sA 5 (e2 dW (eV 5) (bP [(b7 [(eC (.int 11)),(eV 3),(bP [])]),(b7 [(eV 2),(eC (.int 7)),(bP [])]),(b7 [(eV 2),(eV 3),(eC .non)]),(b7 [(eV 2),(eV 3),(e2 wM (eB j4 [(eV 4)]) (b7 [(eC (.int 0))]))]),(b7 [(eV 2),(eV 3),(bP [(b7 [(eC (.int 0)),(eC (.int 0)),(eC (.int 0))])])]),(eC (.str [110,101,116]))])))
  (aD (sA 5 (e2 dW (eV 5) (bP [(b7 [(eV 2),(eV 3),(bP [(b7 [(eC (.int 3)),(eC (.int 0)),(eV 2)])])]),(b7 [(eV 2),(eV 3),(bP [(b7 [(e2 iF (eC (.int 0)) (eC (.int 1))),(eC (.int 0)),(eC (.int 0))])])]),(b7 [(eV 2),(eV 3),(bP [(bP [(eC (.int 1)),(eC (.int 0)),(eC (.int 0))])])]),(b7 [(eV 2),(eC (.int 1)),(bP [(b7 [(eC (.int 1)),(eC (.int 0)),(eC (.int 0))]),(b7 [(eC (.int 2)),(eC (.int 0)),(eC (.int 0))])])])])))
  (sR (e2 gIx (eV 5) (eFm cU 0 [(eB iH [(eV 5)])])))))))
noncomputable def iD(aS aC aJ:Nat):List Dat->Option RV:=fn 5 2
  (aD (sUn (sIf (tV (e2 gEq (eV 0) (eC (.int 0)))) (sE (eF (fun ds=>jd (ds++[.int 0])) [(eV 1),(eV 4)])) (sIf (tV (e2 gEq (eV 0) (eC (.int 1)))) (sE (eF oE [(eV 1),(eV 4)])) (sE (eF mG [(eV 1),(eV 2),(eV 3),(eV 4)])))) (sUn (jS (rIf (tV (e2 gEq (eV 0) (eC (.int 0)))) (bA (fun ds=>aX (ds++[.int 0])) [(eV 1),(eV 4)]) (rIf (tV (e2 gEq (eV 0) (eC (.int 1)))) (bA bB [(eV 1),(eV 4)]) (bA bI [(eV 1),(eV 2),(eV 3),(eV 4)]))) aS 5 (aD (sA 6 (eOr (e1 (cA [aS,aC,aJ] [false,false,false]) (eV 5)) (sM (e1 (cA [aS,aC,aJ] [true,true,true]) (eV 5)))))
  (sR (bP [(e1 (cA [aS,aC,aJ] [true,false,false]) (eV 5)),(e1 (cA [aS,aC,aJ] [false,true,false]) (eV 5)),(e1 (cA [aS,aC,aJ] [false,false,true]) (eV 5)),(eV 6)])))) (sUn (jS (rIf (tV (e2 gEq (eV 0) (eC (.int 0)))) (bA (fun ds=>bD (ds++[.int 0])) [(eV 1),(eV 4)]) (rIf (tV (e2 gEq (eV 0) (eC (.int 1)))) (bA bM [(eV 1),(eV 4)]) (bA bu [(eV 1),(eV 2),(eV 3),(eV 4)]))) aC 5 (aD (sA 6 (eOr (e1 (cA [aS,aC,aJ] [false,false,false]) (eV 5)) (sM (e1 (cA [aS,aC,aJ] [true,true,true]) (eV 5)))))
  (sR (bP [(e1 (cA [aS,aC,aJ] [true,false,false]) (eV 5)),(e1 (cA [aS,aC,aJ] [false,true,false]) (eV 5)),(e1 (cA [aS,aC,aJ] [false,false,true]) (eV 5)),(eV 6)])))) (jS (rIf (tV (e2 gEq (eV 0) (eC (.int 0)))) rNo (rIf (tV (e2 gEq (eV 0) (eC (.int 1)))) rNo (bA cT [(eV 1),(eV 2),(eV 3),(eV 4)]))) aJ 5 (aD (sA 6 (eOr (e1 (cA [aS,aC,aJ] [false,false,false]) (eV 5)) (sM (e1 (cA [aS,aC,aJ] [true,true,true]) (eV 5)))))
  (sR (bP [(e1 (cA [aS,aC,aJ] [true,false,false]) (eV 5)),(e1 (cA [aS,aC,aJ] [false,true,false]) (eV 5)),(e1 (cA [aS,aC,aJ] [false,false,true]) (eV 5)),(eV 6)])))))))
  (sR (bP [])))
noncomputable def wZ:List Dat->Option (RV×Dat):=fnM 2 2
  (aD (sA 2 (eFm uf 0 []))
  (aD (sA 3 (eFm cU 0 [(eV 1)]))
  (sR (e2 gIx (bP [(b7 [(eV 2),(eV 3)]),(b7 [(eV 3),(eV 2)]),(b7 [(eV 3),(eV 3)]),(b7 [(eV 1),(eV 3)]),(b7 [(eV 3),(eV 1)]),(b7 [(eV 2),(eV 2)])]) (eFm cU 0 [(eC (.int 6))])))))
noncomputable def w_:List Dat->Option (RV×Dat):=fnM 2 1
  (aD (sA 2 (eFm uf 0 []))
  (sR (e2 gIx (bP [(eV 2),(eC (.int 0)),(e2 dW (eV 1) (eC (.int 1))),(e2 iF (eC (.int 0)) (eC (.int 1))),(eC (.bl true)),(eV 2)]) (eFm cU 0 [(eC (.int 6))]))))
noncomputable def EC(aS aC aJ:Nat):FS:=
  (aD (sIf (tV (e2 gNe (eF (iD aS aC aJ) [(eV 10),(eV 9),(eV 6),(eV 7),(eV 8)]) (bP [(eC (.bl true)),(eC (.bl false)),(eC (.bl false)),(eC (.bl false))]))) (sR (eC (.bl false))) sNx)
  (aD (sIf (tV (e2 gNe (eF (iD aS aC aJ) [(eV 10),(eV 9),(eC (.int 0)),(e2 iF (eV 2) (eC (.int 1))),(eC (.int 1))]) (bP [(eC (.bl true)),(eC (.bl false)),(eC (.bl false)),(eC (.bl false))]))) (sR (eC (.bl false))) sNx)
  (sIf (tV (e2 gNe (eF (iD aS aC aJ) [(eV 10),(eV 4),(eV 6),(eV 7),(eV 8)]) (bP [(eC (.bl false)),(eC (.bl true)),(eC (.bl false)),(eC (.bl false))]))) (sR (eC (.bl false))) sNx)))
noncomputable def zm(aS aC aJ:Nat):FS:=
  (aD (sA 1 (eF qC [(eV 0),(eV 5)]))
  (aD (sU [6,7] (eFm wZ 1 [(eV 2)]))
  (aD (sA 8 (eFm w_ 1 [(eV 3)]))
  (aD (sA 9 (eFm wY 1 [(eV 4)]))
  (aD (jL (iR1 (eC (.int 3))) (bN 10)
  (EC aS aC aJ))
  (aD (sIf (tV (e2 gNe (eF (iD aS aC aJ) [(eC (.int 2)),(eV 4),(eC (.int 0)),(e2 iF (eV 2) (eC (.int 1))),(eV 8)]) (bP [(eC (.bl false)),(eC (.bl true)),(eC (.bl false)),(eC (.bl false))]))) (sR (eC (.bl false))) sNx)
  (sIf (tV (e2 gNe (eF (iD aS aC aJ) [(eC (.int 2)),(eV 4),(eV 6),(eV 7),(e2 dW (eC (.int 1)) (eFm cU 1 [(eV 3)]))]) (bP [(eC (.bl false)),(eC (.bl false)),(eC (.bl true)),(eC (.bl false))]))) (sR (eC (.bl false))) sNx)))))))
noncomputable def qD(aS aC aJ:Nat):List Dat->Option RV:=fn 1 10
  (aD (sA 1 (eF qC [(eV 0),(eC (.int 12))]))
  (aD (sA 2 (eFm wW 1 []))
  (aD (sA 3 (e2 dW (eC (.int 1)) (eFm cU 1 [(eC (.int 6))])))
  (aD (sA 4 (eF AG [(eV 2),(eFn wX (eF qC [(eV 0),(eC (.int 13))]) [(eV 2),(eC (.int 10))]),(eV 3)]))
  (aD (jL (iR1 (eB tP [(eC (.int 1)),(eB pV [(eB iH [(eV 0)]),(eC (.int 12))])])) (bN 5)
  (zm aS aC aJ))
  (sR (e2 gEq (eF (fun ds=>jd (ds++[.int 0])) [(eV 4),(eV 3)]) (eF jd [(eV 4),(eV 3),(eC (.int 0))]))))))))
end P
local macro_rules|`(tactic|trivial)=>`(tactic|first | (dsimp only[List.set];first | done | rfl) | rfl)
local macro_rules | `(tactic| array_get_dec)=>`(tactic| first | with_reducible refine Dm.Ws.seq ?_ | with_reducible refine Dm.We.e2 ?_ | ((with_reducible apply Dm.We.v);(focus rfl)) | ((with_reducible apply Dm.We.w);(focus rfl)) | with_reducible refine Dm.We.c ?_ | (refine Dm.WA.val ?_ (by trivial)) | (refine Dm.WA.new ?_ (by trivial)) | (refine Dm.WA.slot ?_ rfl (by trivial)) | with_reducible refine Dm.Ws.A ?_ (by decide) | with_reducible refine Dm.Ws.If ?_ | with_reducible refine Dm.Wt.V ?_ | with_reducible refine Dm.Wt.Not ?_ | with_reducible refine Dm.Wt.And ?_ | with_reducible refine Dm.Wt.Or ?_ | with_reducible refine Dm.Wt.T ?_ | (refine Dm.Wb.mk ?_) | (refine Dm.fB.mk ?_) | with_reducible refine Dm.Wif.t ?_ | with_reducible refine Dm.Wif.f ?_ | with_reducible refine Dm.Was.nil ?_ | with_reducible refine Dm.Was.cons ?_ | with_reducible refine Dm.We.B ?_ | with_reducible refine Dm.We.F ?_ | with_reducible refine Dm.We.T ?_ | with_reducible refine Dm.We.L ?_ | with_reducible refine Dm.We.e1 ?_ | with_reducible refine Dm.We.If ?_ | with_reducible refine Dm.We.And ?_ | with_reducible refine Dm.We.Or ?_ | with_reducible refine Dm.We.Not ?_ | with_reducible refine Dm.We.Sl ?_ | with_reducible refine Dm.We.SlT ?_ | with_reducible refine Dm.Wp.none ?_ | with_reducible refine Dm.Wp.some ?_ | (refine Dm.Wsl.A (enc:=Dm.Dat.int) ?_ rfl) | (refine Dm.Wsl.mk ?_ rfl) | (refine Dm.WT.mk ?_ rfl (by trivial) (by exact Nat.le_of_ble_eq_true rfl)) | (refine Dm.Wk.val ?_) | (refine Dm.Wk.new ?_) | (refine Dm.Wk.slot ?_ rfl (by trivial)) | with_reducible refine Dm.We.Dn ?_ | with_reducible refine Dm.We.D1 ?_ | with_reducible refine Dm.Ws.MM ?_ | (refine Dm.So ?_ rfl) | (refine Dm.zh rfl ?_) | (refine Dm.u_ ?_ rfl (by trivial) ?_) | (refine Dm.Ws.App ?_ rfl) | (refine Dm.qy ?_ rfl (by trivial) ?_) | with_reducible refine Dm.Ws.U ?_ | (refine Dm.RX ?_ rfl (by trivial)) | with_reducible refine Dm.Ws.R ?_ | (refine Dm.WR.new ?_) | (refine Dm.WR.val ?_) | (refine Dm.WR.slot ?_ rfl) | with_reducible refine Dm.Ws.nx ?_ | with_reducible refine Dm.Ws.bk ?_ | with_reducible refine Dm.Ws.ct ?_ | with_reducible refine Dm.Ws.E ?_ | with_reducible refine Dm.Ws.For ?_ | with_reducible refine Dm.Wi.S ?_ | with_reducible refine Dm.Wi.L ?_ | with_reducible refine Dm.Wi.R1 ?_ | with_reducible refine Dm.Wi.R2 ?_ | (refine Dm.mC ?_) | (refine Dm.Q7 ?_) | (refine Dm.Wg2.eq ?_ rfl rfl) | (refine Dm.Wg2.ne ?_ rfl rfl) | (refine Dm.Wg2.Si ?_ rfl rfl ?_) | (refine Dm.Wg2.Sj ?_ rfl rfl ?_) | (refine Dm.Wg2.eqb ?_ rfl rfl) | (refine Dm.Wg2.neb ?_ rfl rfl) | (refine Dm.Wg2.RY ?_ rfl rfl) | (refine Dm.Wg2.isb ?_ rfl rfl) | (refine Dm.Wg2.lt ?_ rfl rfl) | (refine Dm.Wg2.le ?_ rfl rfl) | (refine Dm.Wg2.gt ?_ rfl rfl) | (refine Dm.Wg2.ge ?_ rfl rfl) | (refine Dm.Wg2.add ?_ rfl rfl) | (refine Dm.Wg2.Sq ?_ rfl rfl ?_) | (refine Dm.Wg2.Sk ?_ rfl rfl ?_) | (refine Dm.Wg2.Iu ?_ rfl rfl ?_) | (refine Dm.Wg2.sub ?_ rfl rfl) | (refine Dm.Wg2.mul ?_ rfl rfl (by first | exact Or.inl (by decide) | exact Or.inr (by decide))) | (refine Dm.Wg2.mul ?_ rfl rfl ?_) | (refine Dm.Wg2.div ?_ rfl rfl (by decide)) | (refine Dm.Wg2.div ?_ rfl rfl ?_) | (refine Dm.Wg2.mod ?_ rfl rfl (by decide)) | (refine Dm.Wg2.mod ?_ rfl rfl ?_) | (refine Dm.Wg2.din ?_ rfl rfl) | (refine Dm.Wg2.P1 ?_ rfl rfl) | (refine Dm.Wg2.inP ?_ rfl rfl) | (refine Dm.Wg2.Ss ?_ rfl rfl) | (refine Dm.Wg2.ix ?_ rfl rfl rfl) | (refine Dm.WB.P5 (enc:=Dm.Dat.int) ?_ rfl) | (refine Dm.WB.len ?_ rfl) | (refine Dm.WB.zg ?_ rfl) | (refine Dm.WB.min2 ?_ rfl) | (refine Dm.WB.max2 ?_ rfl) | (refine Dm.WB.list ?_ rfl) | (refine Dm.WB.int ?_ rfl) | (refine Dm.WB.sum2 ?_ rfl ?_) | (refine Dm.Wg1.Su (enc:=Dm.Dat.int) ?_ rfl) | (refine Dm.Wg1.mk ?_ rfl rfl))
namespace P
open Dm Fl
noncomputable def fD(t:Tie):Dat:=.tup [.int t.m,.int t.a,.int t.b]
noncomputable def bJ(r:List Tie):Dat:=.lst (r.map fD)
noncomputable def dj(s:Step):Dat:=.tup [.int s.1,.int s.2]
noncomputable def eX(w:List Step):Dat:=.lst (w.map dj)
noncomputable def Pl(n:Nat)(r:List Tie):Prop:=∀t∈r,0<=t.a/\t.a<n/\0<=t.b/\t.b<n
noncomputable def eY(x:Int)(t:Tie):Option Step:=if t.a=t.b then none else if t.a=x then some (t.m,t.b) else if t.b=x then some (t.m,t.a) else none
noncomputable def aK(r:List Tie)(x:Int):List Step:=r.filterMap (eY x)
noncomputable def dU(n:Nat)(r:List Tie):List (List Dat):=(SR n).map fun i:Nat=>(aK r i).map dj
theorem AH{i e:FE}{ρ ρ1 ρ2 ρ3:Env}{rows:List (List Dat)}{k:Int}{m:Nat}{row:List Dat}{x:Val}{d:Dat}(h1:i ρ=some (.val (.int k),ρ1))(h2:ixN rows.length k=some m)(h3:rows[m]?=some row)(h4:e ρ1=some (x,ρ2))(h5:tk ρ2 x=some (d,ρ3))(h6:row.length<SZ) :
  y9 i e ρ rows=some (ρ3,rows.set m (row++[d])):=by
 unfold y9;rw[h1];dsimp only;rw[h2];dsimp only;rw[h3];dsimp only;rw[h4];dsimp only;rw[h5];dsimp only;rw[if_pos h6]
theorem mH(r:List Tie)(t:Tie)(x:Int):aK (r++[t]) x=aK r x++(eY x t).toList:=by
 unfold aK;rw[List.filterMap_append];cases h:eY x t with
 |none=>simp[h]
 |some s=>simp[h]
theorem ED{n:Nat}{k:Int}(h0:0<=k)(h1:k<n):ixN n k=some k.toNat:=by unfold ixN;rw[if_pos h0,if_pos h1]
theorem jJ(n:Nat)(r:List Tie)(i:Nat)(h:i<n):(dU n r)[i]?=some ((aK r i).map dj):=by unfold dU;rw[SM,Uk h];rfl
theorem fV(n:Nat)(r:List Tie):(dU n r).length=n:=by simp[dU]
theorem gp(r:List Tie)(x:Int):(aK r x).length<=r.length:=List.length_filterMap_le _ _
theorem zo(n:Nat)(r:List Tie)(t:Tie)(h:t.a≠t.b)(a0:0<=t.a)(a1:t.a<n)(b0:0<=t.b)(b1:t.b<n) :
  ((dU n r).set t.a.toNat ((aK r t.a).map dj++[dj (t.m,t.b)])).set t.b.toNat ((aK r t.b).map dj++[dj (t.m,t.a)])=dU n (r++[t]):=by
 apply Vp;intro i;by_cases hi:i<n
 ·rw[jJ _ _ _ hi,mH,Tg];by_cases eb:t.b.toNat=i
  ·have e:(i:Int)=t.b:=by omega
   rw[<- eb,SS (by rw[S3,fV];omega),eb,e];have:eY t.b t=some (t.m,t.a):=by unfold eY;rw[if_neg h,if_neg (fun z=>h z),if_pos rfl]
   rw[this];rfl
  ·rw[eg eb];by_cases ea:t.a.toNat=i
   ·have e:(i:Int)=t.a:=by omega
    rw[<- ea,SS (by rw[fV];omega),ea,e];have:eY t.a t=some (t.m,t.b):=by unfold eY;rw[if_neg h,if_pos rfl]
    rw[this];rfl
   ·rw[eg ea,jJ _ _ _ hi];have:eY i t=none:=by unfold eY;rw[if_neg h,if_neg (by omega),if_neg (by omega)]
    rw[this];simp
 ·rw[Tc (by rw[S3,S3,fV];omega),Tc (by rw[fV];omega)]
theorem zp(n:Nat)(r:List Tie)(t:Tie)(h:t.a=t.b):dU n (r++[t])=dU n r:=by
 unfold dU;apply U9;intro i _;rw[mH];have:eY i t=none:=by unfold eY;rw[if_pos h]
 rw[this];simp
theorem B3(n:Nat)(r:List Tie)(t:Tie)(hl:r.length<1000)(a0:0<=t.a)(a1:t.a<n)(b0:0<=t.b)(b1:t.b<n)(c0 c1 c2:Cell) :
  mE [c0,c1,c2,.sh (.int t.m),.sh (.int t.a),.sh (.int t.b)] (dU n r)=some ([c0,c1,c2,.sh (.int t.m),.sh (.int t.a),.sh (.int t.b)],dU n (r++[t])):=by
 have ht:tV (e2 gNe (eV 4) (eV 5)) [c0,c1,c2,.sh (.int t.m),.sh (.int t.a),.sh (.int t.b)]=some (!decide (t.a=t.b),[c0,c1,c2,.sh (.int t.m),.sh (.int t.a),.sh (.int t.b)]):=by unfold tV e2 eV;simp[pk,vc,RV.cj]
 unfold mE nIf;rw[ht];by_cases h:t.a=t.b
 ·rw[decide_eq_true h];rw[zp n r t h];rfl
 ·rw[decide_eq_false h];show BN _ _ _ _=_;unfold BN;have k1:=(gp r t.a)
  have k2:=(gp r t.b)
  have hz:SZ=100000:=rfl;have ea:((t.a.toNat:Nat):Int)=t.a:=by omega
  have eb:((t.b.toNat:Nat):Int)=t.b:=by omega
  rw[AH (k:=t.a) (m:=t.a.toNat) (row:=(aK r t.a).map dj) (d:=dj (t.m,t.b)) (ρ3:=[c0,c1,c2,.sh (.int t.m),.sh (.int t.a),.sh (.int t.b)]) rfl (by rw[fV];exact ED a0 a1) (by rw[jJ _ _ _ (by omega),ea]) rfl rfl (by rw[Sx];omega)];dsimp only;rw [AH (k:=t.b) (m:=t.b.toNat) (row:=(aK r t.b).map dj) (d:=dj (t.m,t.a)) (ρ3:=[c0,c1,c2,.sh (.int t.m),.sh (.int t.a),.sh (.int t.b)]) rfl (by rw [S3,fV];exact ED b0 b1)
   (by rw[eg (by omega),jJ _ _ _ (by omega),eb]) rfl rfl (by rw[Sx];omega)]
  rw[zo n r t h a0 a1 b0 b1]
theorem qE(n:Nat)(c0 c1 c2:Cell):∀(q p:List Tie) (c3 c4 c5:Cell),Pl n q->p.length+q.length<=1000 ->
  ∃c3' c4' c5',oq (bT [3,4,5]) mE (q.map fD) [c0,c1,c2,c3,c4,c5] (dU n p)=some ([c0,c1,c2,c3',c4',c5'],dU n (p++q))
 |[],p,c3,c4,c5,_,_=>⟨c3,c4,c5,by rw[Tz];rfl⟩
 |t::q,p,c3,c4,c5,hp,hl=>by obtain⟨a0,a1,b0,b1⟩:=hp t Sy;rw[Tt]at hl;obtain⟨c3',c4',c5',e⟩:=qE n c0 c1 c2 q (p++[t]) (.sh (.int t.m)) (.sh (.int t.a)) (.sh (.int t.b)) (fun u hu=>hp u (SA _ hu)) (by rw[SK,TQ];omega);refine⟨c3',c4',c5',?_⟩;rw[Dk,oq];show (match mE [c0,c1,c2,.sh (.int t.m),.sh (.int t.a),.sh (.int t.b)] (dU n p) with | none=>none | some (ρ2,r2)=>oq (bT [3,4,5]) mE (q.map fD) ρ2 r2)=_;rw[B3 n p t (by omega) a0 a1 b0 b1];dsimp only;rw[e,Vm];rfl
theorem EE(pre:Env)(k:Nat)(hk:pre.length=k)(h0:k≠0):∀(ds:List Dat) (c:Cell),∃c',nMk (bN k) ds (pre++[c])=some (pre++[c'])
 |[],c=>⟨c,rfl⟩
 |d::ds,c=>by
  obtain⟨c',e⟩:=EE pre k hk h0 ds (.sh d);refine⟨c',?_⟩;rw[nMk];have:bN k d (pre++[c])=some (pre++[.sh d]):=by unfold bN;rw[if_neg h0,UG _ _ (by omega)];simp[hk]
  rw[this];exact e
noncomputable def cN(n:Nat)(R:Int->List Step):Dat:=.lst ((SR n).map fun i:Nat=>eX (R i))
theorem xg(n:Nat)(hn:n<=1000)(r:List Tie)(hr:Pl n r)(hl:r.length<=1000):Iw [.int n,bJ r]=some (.new (cN n (aK r))):=by
 obtain⟨c3,c4,c5,e⟩:=qE n (.sh (.int n)) (.sh (bJ r)) .un r [] .un .un .un hr (by simpa using hl);obtain⟨c',e2⟩:=EE [.sh (.int n),.sh (bJ r),.un,.un,.un,.un] 6 rfl (by decide) (ups 0 n) .un;have h0:dU n []=Dp n []:=by
  unfold dU aK;apply Vp;intro i;by_cases hi:i<n
  ·rw[SM,Uk hi,S8,if_pos hi];rfl
  ·rw[Tc (by simp;omega),Tc (by simp;omega)]
 have hu:(ups 0 n).length=n:=by simp[ups]
 have e1:iR1 (eV 0) [.sh (.int n),.sh (bJ r),.un,.un,.un,.un]=some (ups 0 n,[.sh (.int n),.sh (bJ r),.un,.un,.un,.un]):=by show (if (n:Int)<=BIG/\-BIG<=(n:Int) then some (ups 0 (n:Int).toNat,_) else none)=_;rw[if_pos (by unfold BIG;omega)];rfl
 rw[h0,Ut]at e;have en:qp 2 (iR1 (eV 0)) 1 (bN 6) (y_ (iS (eV 1)) (bT [3,4,5]) mE) [.sh (.int n),.sh (bJ r),.un,.un,.un,.un]=some (.nx [.sh (.int n),.sh (bJ r),.ow (cN n (aK r)),c3,c4,c5]):=by
  unfold qp;rw[if_neg (by decide),e1];dsimp only;rw[if_pos (by rw[hu];unfold SZ;omega)];show (match nMk (bN 6) (ups 0 n) ([.sh (.int n),.sh (bJ r),.un,.un,.un,.un]++[.un]) with | none=>none | some ρ2=>_)=_;rw[e2];dsimp only;rw[hu];show (match y_ (iS (eV 1)) (bT [3,4,5]) mE [.sh (.int n),.sh (bJ r),.un,.un,.un,.un] (Dp n []) with | none=>none | some (ρ3,r3)=>_)=_;have:y_ (iS (eV 1)) (bT [3,4,5]) mE [.sh (.int n),.sh (bJ r),.un,.un,.un,.un] (Dp n [])=some ([.sh (.int n),.sh (bJ r),.un,c3,c4,c5],dU n r):=e;rw[this];have e3:(dU n r).map Dat.lst=(SR n).map fun i:Nat=>eX (aK r i):=by unfold dU;rw[T7];rfl
  show some (Out.nx [.sh (.int n),.sh (bJ r),.ow (.lst ((dU n r).map Dat.lst)),c3,c4,c5])=_;rw[e3];rfl
 apply Wr.eq;unfold Iw
 (refine Dm.Wr.fn ?_ rfl rfl;and_intros)
 refine Ws.seq ⟨_,en,?_⟩;refine Ws.R (We.w rfl (WR.slot ?_ rfl));rfl
noncomputable def hdF(h:List (Int×Int)):Hd:=fun m=>(h.find? fun e=>decide (e.1=m)).map (·.2)
noncomputable def hk(h:List (Int×Int)):List Int:=h.map (·.1)
noncomputable def hv(h:List (Int×Int)):List Dat:=h.map fun e=>Dat.int e.2
noncomputable def bZ(h:List (Int×Int)):Dat:=.dct (hk h) (hv h)
theorem pG(h:List (Int×Int))(m:Int):cL (hk h) (hv h) m=(hdF h m).map Dat.int:=by
 unfold hk hv hdF
 induction h with
 |nil=>rfl
 |cons e h ih=>
  rw[Dk,Dk,cL,TL];by_cases q:e.1=m
  ·rw[if_pos q,decide_eq_true q];rfl
  ·rw[if_neg q,decide_eq_false q];exact ih
theorem vd{h:List (Int×Int)}{m:Int}:(hdF h m).isSome=decide (m∈hk h):=by
 unfold hdF hk
 induction h with
 |nil=>rfl
 |cons e h ih=>
  rw[TL];by_cases q:e.1=m
  ·rw[decide_eq_true q];simp[q]
  ·rw[decide_eq_false q];have q':¬m=e.1:=fun z=>q z.symm;simp only[Dk,SH,q',false_or];exact ih
theorem MQ(o:Option Int)(y:Int):gNe ((o.map Dat.int).getD .non) (.int y)=vB (!decide (o=some y)):=by
 cases o with
 |none=>rfl
 |some z=>
  show gNe (.int z) (.int y)=_;rw[vc];have:(z=y)=(some z=some y):=by simp
  simp only[this]
theorem MR(o:Option Int)(y:Int):gEq ((o.map Dat.int).getD .non) (.int y)=vB (decide (o=some y)):=by
 cases o with
 |none=>rfl
 |some z=>
  show gEq (.int z) (.int y)=_;rw[AB];have:(z=y)=(some z=some y):=by simp
  simp only[this]
noncomputable def xh(h:List (Int×Int))(R:Int->List Step):Int->List Step:=fun x=>(R x).filter fun s=>!decide (hdF h s.1=some s.2)
noncomputable def xj(h:List (Int×Int))(R:Int->List Step):Int->List Step:=fun x=>(R x).filter fun s=>decide (hdF h s.1=some s.2)
theorem AI(g:Dat->Dat->Option RV)(p:Option Int->Int->Bool)(hg:∀o y,g ((o.map Dat.int).getD .non) (.int y)=vB (p o y))(h:List (Int×Int))(A:Cell)(w:List Step)(hl:w.length<=1000) :
  We (dm 2 1 (bN 3) (tV (e2 g (nY (eV 1) (e2 gIx (eV 3) (eC (.int 0)))) (e2 gIx (eV 3) (eC (.int 1))))) (eV 3)) [A,.sh (bZ h),.sh (eX w)] fun v ρ'=>Wk ρ' v fun d ρ''=>d=eX (w.filter fun s=>p (hdF h s.1) s.2)/\ρ''=[A,.sh (bZ h),.sh (eX w)]:=by
 refine We.PZ dj w (fun s=>p (hdF h s.1) s.2) id dj (d:=eX w) ?_ rfl rfl rfl (by decide) (by unfold SZ;omega) (fun s _=>?_) fun s _ _=>?_
 ·rw[Vc];exact Wk.new ⟨rfl,rfl⟩
 ·refine Wt.V (We.e2 (We.RU (We.v rfl ⟨⟨_,_,rfl⟩,We.e2 (We.v rfl (We.c (Wg2.ix ?_ rfl rfl rfl)))⟩)));refine⟨hk h,hv h,s.1,rfl,rfl,We.e2 (We.v rfl (We.c (Wg2.ix ?_ rfl rfl rfl)))⟩;refine⟨_,_,_,rfl,rfl,(by rw[pG];exact hg _ _),?_⟩;exact Wb.mk ⟨rfl,rfl⟩
 ·exact We.v rfl (Wk.val ⟨rfl,rfl⟩)
theorem jT(n:Nat)(hn:n<=1000)(R:Int->List Step)(hR:∀i:Nat,i<n->(R i).length<=1000)(h:List (Int×Int)):Er [cN n R,bZ h]=some (.new (cN n (xh h R))):=by
 apply Wr.eq;unfold Er
 (refine Dm.Wr.fn ?_ rfl rfl;and_intros)
 refine Ws.R ?_;refine We.BX (fun i:Nat=>eX (R i)) (SR n) id (fun i:Nat=>eX (xh h R i)) (d:=cN n R) ?_ rfl rfl rfl (by decide) (by rw[S6];unfold SZ;omega) fun i hi=>?_
 ·rw[Vc];rfl
 ·exact AI gNe (fun o y=>!decide (o=some y)) MQ h _ (R i) (hR i (TX.mp hi))
theorem ve(n:Nat)(hn:n<=1000)(R:Int->List Step)(hR:∀i:Nat,i<n->(R i).length<=1000)(h:List (Int×Int)):Es [cN n R,bZ h]=some (.new (cN n (xj h R))):=by
 apply Wr.eq;unfold Es
 (refine Dm.Wr.fn ?_ rfl rfl;and_intros)
 refine Ws.R ?_;refine We.BX (fun i:Nat=>eX (R i)) (SR n) id (fun i:Nat=>eX (xj h R i)) (d:=cN n R) ?_ rfl rfl rfl (by decide) (by rw[S6];unfold SZ;omega) fun i hi=>?_
 ·rw[Vc];rfl
 ·exact AI gEq (fun o y=>decide (o=some y)) MR h _ (R i) (hR i (TX.mp hi))
theorem Iz(ks:List Int)(i:Int):(ks.any fun k=>decide (k=i))=decide (i∈ks):=by
 induction ks with
 |nil=>rfl
 |cons k ks ih=>
  rw[Ui,ih];by_cases h:k=i
  ·simp[h]
  ·have h':¬i=k:=fun z=>h z.symm;simp[h,h']
theorem AJ{ks:List Int}{vs:List Dat}{i:Int}{d:Dat}(h:i∉ks):nW ks i=ks++[i]/\nX ks vs i d=vs++[d]:=by unfold nW nX;rw[Iz,decide_eq_false h];exact⟨rfl,rfl⟩
theorem B4{α:Type}(key:α->Int)(val:α->Dat)(xs:List α)(i:Int):cL (xs.map key) (xs.map val) i=(xs.find? fun x=>decide (key x=i)).map val:=by
 induction xs with
 |nil=>rfl
 |cons x xs ih=>
  rw[Dk,Dk,cL,TL];by_cases h:key x=i
  ·simp[h]
  ·simp[h,ih]
theorem jK{α:Type}[DecidableEq α]:∀(l m:List α),l.Nodup->(∀x∈l,x∈m)->l.length<=m.length
 |[],_,_,_=>Ti _
 |x::l,m,h,k=>by obtain⟨h1,h2⟩:=S1.mp h;have hx:x∈m:=k x Sy;have:=jK l (m.erase x) h2 fun y hy=>(List.mem_erase_of_ne (fun e:y=x=>h1 (by rw[<- e];exact hy))).mpr (k y (SA _ hy));rw[List.length_erase_of_mem hx]at this;have:=List.length_pos_of_mem hx;simp;omega
noncomputable def places(n:Nat):List Int:=(SR n).map fun i:Nat=>(i:Int)
theorem places_len(n:Nat):(places n).length=n:=by simp[places]
theorem zq(n:Nat)(x:Int):x∈places n↔0<=x/\x<n:=by
 unfold places;rw[S7];constructor
 ·rintro⟨i,hi,rfl⟩;have:=TX.mp hi;omega
 ·rintro⟨h0,h1⟩;exact⟨x.toNat,TX.mpr (by omega),by omega⟩
noncomputable abbrev Sr:=List (Int×List Step)
noncomputable def sk(s:Sr):List Int:=s.map (·.1)
noncomputable def sv(s:Sr):List Dat:=s.map fun e=>eX e.2
noncomputable def InR(R:Int->List Step)(p:Int)(s:Step):Prop:=s∈R p
structure EF(R:Int->Step->Prop)(a:Int)(w:List Step)(p:Int):Prop where
 way:Way R a w p
 nd:(a::w.map (·.2)).Nodup
structure Fnd(n:Nat)(R:Int->List Step)(a:Int)(s:Sr):Prop where
 nd:(sk s).Nodup
 pl:∀x∈sk s,0<=x/\x<n
 st:a∈sk s
 way:∀e∈s,EF (InR R) a e.2 e.1/\∀x∈a::e.2.map (·.2),x∈sk s
theorem Fnd.len{n:Nat}{R:Int->List Step}{a:Int}{s:Sr}(h:Fnd n R a s):s.length<=n:=by
 have:=jK (sk s) (places n) h.nd fun x hx=>(zq n x).mpr (h.pl x hx);rw[places_len]at this
 simpa [sk] using this
theorem Fnd.IA{n:Nat}{R:Int->List Step}{a:Int}{s:Sr}(h:Fnd n R a s){e:Int×List Step}(he:e∈s):e.2.length<s.length:=by obtain⟨h1,h2⟩:=h.way e he;have:=jK (a::e.2.map (·.2)) (sk s) h1.nd h2;simp[sk]at this;omega
theorem fS(s:Sr)(x:Int)(w:List Step):sk (s++[(x,w)])=sk s++[x]:=by simp[sk]
theorem IB(s:Sr)(x:Int)(w:List Step):sv (s++[(x,w)])=sv s++[eX w]:=by simp[sv]
theorem vf(s:Sr)(x:Int):(∃w,(x,w)∈s/\cL (sk s) (sv s) x=some (eX w))\/(x∉sk s/\cL (sk s) (sv s) x=none):=by
 unfold sk sv;rw[B4 (fun e:Int×List Step=>e.1) (fun e=>eX e.2) s x];cases hf:s.find? fun e=>decide (e.1=x) with
 |none=>refine Or.inr ⟨fun h=>?_,rfl⟩;obtain⟨e,he,hx⟩:=S7.mp h;have:=Vh.mp hf e he;simp[hx]at this
 |some e=>
  have h1:=List.mem_of_find?_eq_some hf;have h2:=List.find?_some hf;have h2:e.1=x:=by simpa using h2
  exact Or.inl ⟨e.2,by rw[<- h2];exact h1,rfl⟩
theorem oF(s:Sr)(x:Int):(cL (sk s) (sv s) x).isSome=decide (x∈sk s):=by
 rcases vf s x with⟨ts,h1,h2⟩ | ⟨h1,h2⟩
 ·have:x∈sk s:=S7.mpr ⟨_,h1,rfl⟩;rw[h2,decide_eq_true this];rfl
 ·rw[h2,decide_eq_false h1];rfl
theorem Fnd.start{n:Nat}{R:Int->List Step}{a:Int}(a0:0<=a)(a1:a<n):Fnd n R a [(a,[])] where
 nd:=by simp[sk]
 pl:=by intro x hx;simp[sk]at hx;subst hx;exact⟨a0,a1⟩
 st:=by simp[sk]
 way:=by intro e he;simp at he;subst he;exact⟨⟨rfl,by simp⟩,by simp[sk]⟩
theorem Fnd.step{n:Nat}{R:Int->List Step}{a:Int}{s:Sr}(h:Fnd n R a s){p:Int}{w:List Step}(hp:(p,w)∈s){u:Step}(hu:u∈R p)(hn:u.2∉sk s)(u0:0<=u.2)(u1:u.2<n):Fnd n R a (s++[(u.2,w++[u])]) where
 nd:=by rw[fS];exact Uh.mpr ⟨h.nd,by simp,fun x hx y hy=>by rw[SV.mp hy];exact fun e=>hn (e▸hx)⟩
 pl:=by
  intro x hx;rw[fS]at hx;rcases Te.mp hx with hx | hx
  ·exact h.pl x hx
  ·rw[SV.mp hx];exact⟨u0,u1⟩
 st:=by rw[fS];exact To _ h.st
 way:=by
  intro e he;rw[fS];rcases Te.mp he with he | he
  ·obtain⟨k1,k2⟩:=h.way e he;exact⟨k1,fun x hx=>To _ (k2 x hx)⟩
  ·rw[SV.mp he];obtain⟨k1,k2⟩:=h.way _ hp;refine⟨⟨k1.way.snoc hu,?_⟩,fun x hx=>?_⟩
   ·dsimp only at k1 k2 ⊢;rw[Tg,<- TU];exact Uh.mpr ⟨k1.nd,by simp,fun x hx y hy=>by rw[SV.mp hy];exact fun e:x=u.2=>hn (by rw[<- e];exact k2 x hx)⟩
   ·dsimp only at k1 k2 hx ⊢;rw[Tg,<- TU]at hx;rcases Te.mp hx with hx | hx
    ·exact To _ (k2 x hx)
    ·exact S9 _ (by simpa using hx)
noncomputable def Done(R:Int->List Step)(K:List Int)(x:Int):Prop:=∀u∈R x,u.2∈K
noncomputable def IC(n:Nat)(R:Int->List Step)(a:Int)(s:Sr)(ps:List Int)(c4 c5:Cell):Env:=[.sh (cN n R),.sh (.int a),.ow (.dct (sk s) (sv s)),.ow (.lst (ps.map Dat.int)),c4,c5]
theorem MS{ps:List Int}{p0:Int}{i:Nat}{e:FE}{ρ ρ2:Env}{Q:Val->Env->Prop}(q:Q (.val (.int p0)) ρ2)(h:ρ[i]?=some (.ow (.lst ((p0::ps).map Dat.int))))(he:e ρ=some (.val (.int 0),ρ))(hs:ρ.set i (.ow (.lst (ps.map Dat.int)))=ρ2):We (ny i e) ρ Q:=
 ⟨_,_,by unfold ny;rw[h];dsimp only;rw[he];dsimp only;rw[h];dsimp only;rw[if_pos (by unfold BIG;omega)];show some (Val.val (.int p0),ρ.set i (.ow (.lst (ps.map Dat.int))))=_;rw[hs],q⟩
theorem ID(n:Nat)(R:Int->List Step)(x:Int)(h0:0<=x)(h1:x<n):gIx (cN n R) (.int x)=some (.val (eX (R x))):=by
 unfold cN gIx;dsimp only;rw[mz (fun i:Nat=>eX (R i)) (SR n) x h0 (by rw[S6];exact h1)];have e:(((SR n)[x.toNat]'(by rw[S6];omega):Nat):Int)=x:=by rw[List.getElem_range];omega
 rw[e];rfl
theorem oG(n:Nat)(hn:n<=40)(R:Int->List Step)(hR:∀i:Int,0<=i->i<n->∀u∈R i,0<=u.2/\u.2<n)(a:Int)(a0:0<=a)(a1:a<n) :
  ∃s:Sr,wR [cN n R,.int a]=some (.new (.dct (sk s) (sv s)))/\Fnd n R a s/\∀x∈sk s,Done R (sk s) x:=by
 suffices h:Wr (wR [cN n R,.int a]) fun v=>∃s:Sr,v=.new (.dct (sk s) (sv s))/\Fnd n R a s/\∀x∈sk s,Done R (sk s) x by obtain⟨v,h1,s,rfl,h2⟩:=h;exact⟨s,h1,h2⟩
 unfold wR
 (refine Dm.Wr.fn ?_ rfl rfl;and_intros)
 repeat array_get_dec
 refine Ws.wh (fun k ρ=>∃(s:Sr) (ps:List Int) (c4 c5:Cell),ρ=IC n R a s ps c4 c5/\Fnd n R a s/\(∀x∈ps,x∈sk s)/\(∀x∈sk s,x∈ps\/Done R (sk s) x)/\k=ps.length+(n-s.length)/\k<=40) ?_ 100 n _ (by omega) ⟨[(a,[])],[a],_,_,rfl,Fnd.start a0 a1,by simp[sk],by simp[sk],by simp;omega,hn⟩;rintro k ρ ⟨s,ps,c4,c5,rfl,F,hps,hd,hk,Sv⟩;unfold IC;refine Wt.Tr ?_;refine We.w rfl ?_;refine⟨_,!(ps.map Dat.int).isEmpty,rfl,rfl,?_⟩;have len:=F.len;cases ps with
 |nil=>refine Wif.no rfl ?_;refine Ws.R (We.w rfl (WR.slot ?_ rfl));exact⟨s,rfl,F,fun x hx=>(hd x hx).resolve_left (by simp)⟩
 |cons p0 ps0=>
  refine Wif.yes rfl ?_;unfold JZ;refine Ws.seq (Ws.A ?_ (by decide));refine MS (ps:=ps0) (p0:=p0) ?_ rfl rfl rfl;refine WA.val ?_ (by trivial);have hp0:p0∈sk s:=hps p0 (by simp);obtain⟨q0,q1⟩:=F.pl p0 hp0;refine Ws.For (Wi.S (We.e2 (We.v rfl (We.v rfl (Wg2.ix ?_ rfl rfl (ID n R p0 q0 q1))))));refine Wk.val (mC ?_);refine Ws.inv dj _ _ (R p0) _ _ _ _ _ (fun p q ρ=>∃(s:Sr) (ps:List Int) (c5:Cell),ρ=IC n R a s ps (.sh (.int p0)) c5/\Fnd n R a s/\(∀x∈ps,x∈sk s)/\p0∈sk s/\(∀x∈sk s,x∈ps\/x=p0\/Done R (sk s) x)/\(∀u∈p,u.2∈sk s)/\k=ps.length+1+(n-s.length)) ⟨s,ps0,_,rfl,F,fun x hx=>hps x (by simp[hx]),hp0,?_,by simp,by rw[hk];simp⟩ ?_ ?_
  ·intro x hx;rcases hd x hx with h | h
   ·rcases SH.mp h with h | h
    ·exact .inr (.inl h)
    ·exact .inl h
   ·exact .inr (.inr h)
  ·rintro p u q ρ e' ⟨s,ps,c5,rfl,F,hps,hp0,hd,hp,hk⟩;have len:=F.len;have hu:u∈R p0:=by rw[e'];simp
   obtain⟨u0,u1⟩:=hR p0 q0 q1 u hu;unfold IC;refine Dm.ff rfl (by trivial) ?_;unfold JY;refine Ws.If (Wt.V (We.e2 (We.e2 (We.v rfl (We.c (Wg2.ix ?_ rfl rfl rfl))))));refine We.w rfl (Wg2.P1 ?_ rfl rfl);refine Wb.mk ?_;rw[oF];refine⟨fun h=>?_,fun h=>?_⟩
   ·have hnew:=ndT h;obtain⟨w,t1,t2⟩:∃w,(p0,w)∈s/\cL (sk s) (sv s) p0=some (eX w):=by
     rcases vf s p0 with h | h
     ·exact h
     ·exact absurd hp0 h.1
    have wl:=F.IA t1;refine Ws.seq (Ws.MM (We.e2 (We.e2 (We.w rfl (We.v rfl (Wg2.dx t2 ?_ rfl rfl))))));refine We.L (Was.cons (We.v rfl (Was.nil (WT.mk ?_ rfl rfl (by exact SJ rfl)))));refine Wg2.Iu ?_ rfl rfl (by rw[Sx];dsimp only at wl;simp;unfold SZ;omega);refine Wk.new (zh rfl (We.e2 (We.v rfl (We.c (Wg2.ix ?_ rfl rfl rfl)))));refine fB.mk (u_ ?_ rfl (by trivial) (by simp only[sk,Sx];unfold SZ;omega));refine Ws.App (We.e2 (We.v rfl (We.c (Wg2.ix ?_ rfl rfl rfl)))) rfl;refine Wk.val (qy ?_ rfl (by trivial) (by rw[Sx];unfold SZ;omega));have F':=F.step t1 hu hnew u0 u1;have len':=F'.len;have em:Dat.lst (w.map dj++[dj u])=eX (w++[u]):=by simp[eX]
    obtain⟨p1,p2⟩:=AJ (ks:=sk s) (vs:=sv s) (i:=u.2) (d:=eX (w++[u])) hnew;refine⟨s++[(u.2,w++[u])],ps++[u.2],.sh (dj u),?_,F',?_,?_,?_,?_,?_⟩
    ·rw[em,p1,p2,fS,IB,Tg];rfl
    ·intro x hx;rw[fS];rcases Te.mp hx with hx | hx
     ·exact To _ (hps x hx)
     ·exact S9 _ hx
    ·rw[fS];exact To _ hp0
    ·intro x hx;rw[fS]at hx ⊢;rcases Te.mp hx with hx | hx
     ·rcases hd x hx with h | h | h
      ·exact .inl (To _ h)
      ·exact .inr (.inl h)
      ·exact .inr (.inr fun y hy=>To _ (h y hy))
     ·exact .inl (S9 _ hx)
    ·intro v hv;rw[fS];rcases Te.mp hv with hv | hv
     ·exact To _ (hp v hv)
     ·rw[SV.mp hv];simp
    ·rw[hk];simp at len' ⊢;omega
   ·have hold:=ndF h;refine Ws.nx ?_;refine⟨s,ps,.sh (dj u),rfl,F,hps,hp0,hd,fun v hv=>?_,hk⟩;rcases Te.mp hv with hv | hv
    ·exact hp v hv
    ·rw[SV.mp hv];exact hold
  ·rintro ρ ⟨s,ps,c5,rfl,F,hps,hp0,hd,hp,hk⟩;refine⟨ps.length+(n-s.length),by omega,s,ps,_,_,rfl,F,hps,fun x hx=>?_,rfl,by omega⟩;rcases hd x hx with h | rfl | h
   ·exact .inl h
   ·exact .inr hp
   ·exact .inr h
noncomputable def oH(h:List (Int×Int))(s:Step):List (Int×Int):=if s.1∈hk h then h.filter fun e=>decide (e.1≠s.1) else h++[s]
theorem qF(h:List (Int×Int))(m:Int):hdF (h.filter fun e=>decide (e.1≠m))=put (hdF h) m none:=by
 funext x
 unfold put hdF;rw[List.find?_filter];by_cases e:x=m
 ·subst e;rw[if_pos rfl,Vh.mpr fun y _=>by simp];rfl
 ·rw[if_neg e]
  congr 1
  congr 1
  funext y
  by_cases q:y.1=x
  ·have:y.1≠m:=fun z=>e (q.symm.trans z);simp[q,e]
  ·simp[q]
theorem IE(h:List (Int×Int))(s:Step)(hn:s.1∉hk h):hdF (h++[s])=put (hdF h) s.1 (some s.2):=by
 funext x
 unfold put hdF;rw[List.find?_append];by_cases e:x=s.1
 ·subst e;rw[if_pos rfl];have:(h.find? fun e=>decide (e.1=s.1))=none:=Vh.mpr fun y hy=>by
   intro z;exact hn (S7.mpr ⟨y,hy,of_decide_eq_true z⟩)
  rw[this];simp
 ·rw[if_neg e];have e':¬s.1=x:=fun z=>e z.symm;cases hf:(h.find? fun e=>decide (e.1=x)) with
  |none=>simp[e']
  |some y=>rfl
theorem EG(h:List (Int×Int))(s:Step):hdF (oH h s)=i9 (hdF h) s.1 s.2:=by
 unfold oH i9;rw[vd];by_cases q:s.1∈hk h
 ·rw[if_pos q,if_pos (decide_eq_true q),qF]
 ·rw[if_neg q,if_neg (by simpa using q),IE h s q]
noncomputable def cV(h:List (Int×Int)):List Step->List (Int×Int)
 |[]=>h
 |s::w=>cV (oH h s) w
theorem ug:∀(w:List Step) (h:List (Int×Int)),hdF (cV h w)=oz (hdF h) w
 |[],_=>rfl
 |s::w,h=>by rw[cV,oz,ug w,EG]
theorem je:∀(w:List Step) (h:List (Int×Int)) (s:Step),cV h (w++[s])=oH (cV h w) s
 |[],_,_=>rfl
 |_::w,h,s=>by rw[TU,cV,cV,je w]
theorem pH(h:List (Int×Int))(m:Int):g6 (hk h) (hv h) m=hk (h.filter fun e=>decide (e.1≠m))/\g7 (hk h) (hv h) m=hv (h.filter fun e=>decide (e.1≠m)):=by
 unfold hk hv
 induction h with
 |nil=>exact⟨rfl,rfl⟩
 |cons e h ih=>
  rw[Dk,Dk,g6,g7];by_cases q:e.1=m
  ·rw[if_pos q,if_pos q,TF (by simpa using q)];exact ih
  ·rw[if_neg q,if_neg q,TH (by simpa using q),Dk,Dk,ih.1,ih.2];exact⟨rfl,rfl⟩
structure Hok(r:List Tie)(h:List (Int×Int)):Prop where
 nd:(hk h).Nodup
 sub:∀m∈hk h,m∈r.map (·.m)
theorem Hok.len{r:List Tie}{h:List (Int×Int)}(k:Hok r h):h.length<=r.length:=by
 have:=jK (hk h) (r.map (·.m)) k.nd k.sub
 simpa [hk] using this
theorem Hok.nil(r:List Tie):Hok r []:=⟨by simp[hk],by simp[hk]⟩
theorem Hok.drop{r:List Tie}{h:List (Int×Int)}(k:Hok r h)(m:Int):Hok r (h.filter fun e=>decide (e.1≠m)):=by refine⟨(k.nd.sublist (List.Sublist.map _ (List.filter_sublist))),fun x hx=>k.sub x ?_⟩;obtain⟨e,he,rfl⟩:=S7.mp hx;exact S7.mpr ⟨e,(Ur.mp he).1,rfl⟩
theorem Hok.lead{r:List Tie}{h:List (Int×Int)}(k:Hok r h){s:Step}(hs:s.1∈r.map (·.m)):Hok r (oH h s):=by
 unfold oH;split
 ·exact k.drop _
 ·rename_i q;refine⟨?_,fun x hx=>?_⟩
  ·unfold hk;rw[Tg];exact Uh.mpr ⟨k.nd,by simp,fun x hx y hy=>by
    have:y=s.1:=by simpa using hy
    rw[this];exact fun e=>q (e▸hx)⟩
  ·unfold hk at hx;rw[Tg]at hx;rcases Te.mp hx with hx | hx
   ·exact k.sub x hx
   ·have:x=s.1:=by simpa using hx
    rw[this];exact hs
theorem Hok.EH{r:List Tie}:∀{w:List Step} {h:List (Int×Int)},Hok r h->(∀s∈w,s.1∈r.map (·.m))->Hok r (cV h w)
 |[],_,k,_=>k
 |s::w,h,k,hs=>by rw[cV];exact Hok.EH (w:=w) (k.lead (hs s Sy)) fun u hu=>hs u (SA _ hu)
theorem sY(r:List Tie)(hl:r.length<=1000)(h:List (Int×Int))(k:Hok r h)(w:List Step)(hw:∀s∈w,s.1∈r.map (·.m)):Et [bZ h,eX w]=some (.val .non,bZ (cV h w)):=by
 suffices q:WrM (Et [bZ h,eX w]) fun z d=>z=.val .non/\d=bZ (cV h w) by obtain⟨z,d,h1,rfl,rfl⟩:=q;exact h1
 unfold Et;refine WrM.fn ?_ rfl rfl;refine Ws.For (Wi.S (We.v rfl (Wk.val (mC ?_))));refine Ws.inv dj _ _ w _ _ _ _ _ (fun p q ρ=>∃c2 c3,ρ=[.ow (bZ (cV h p)),.sh (eX w),c2,c3]) ⟨_,_,rfl⟩ ?_ ?_
 ·rintro p s q ρ e ⟨c2,c3,rfl⟩;refine Dm.ff rfl (by trivial) ?_;have kp:Hok r (cV h p):=k.EH fun u hu=>hw u (by rw[e];exact To _ hu);have len:=kp.len;unfold J0;refine Ws.If (Wt.V (We.e2 (We.v rfl (We.w rfl (Wg2.din ?_ rfl rfl)))));refine Wb.mk ?_;rw[pG,UD,vd];refine Wif.dec (fun hm=>?_) fun hm=>?_
  ·obtain⟨x,hx⟩:∃x,hdF (cV h p) s.1=some x:=Th.mp (by rw[vd];exact decide_eq_true hm);refine Ws.E (We.P8 (k:=s.1) (d:=.int x) (by rw[pG,hx];rfl) ?_ rfl rfl rfl);refine⟨.sh (.int s.1),.sh (.int s.2),?_⟩;rw[je,oH,if_pos hm,(pH _ _).1,(pH _ _).2];rfl
  ·refine Ws.MM (We.v rfl (Wk.val (zh rfl (We.v rfl (fB.mk (u_ ?_ rfl (by trivial) ?_))))))
   ·refine⟨.sh (.int s.1),.sh (.int s.2),?_⟩;rw[je,oH,if_neg hm];obtain⟨p1,p2⟩:=AJ (ks:=hk (cV h p)) (vs:=hv (cV h p)) (i:=s.1) (d:=.int s.2) hm;rw[p1,p2];unfold bZ hk hv;rw[Tg,Tg];rfl
   ·unfold hk;rw[Sx];unfold SZ;omega
 ·rintro ρ ⟨c2,c3,rfl⟩;exact⟨_,rfl,rfl,rfl⟩
theorem oJ{r:List Tie}{x:Int}{s:Step}:s∈aK r x↔mD r x s:=by
 unfold aK;rw[UQ];constructor
 ·rintro⟨t,ht,e⟩;unfold eY at e;split at e
  ·cases e
  rename_i hne;split at e
  ·rename_i ha;cases e;exact⟨t,ht,rfl,hne,.inl ⟨ha,rfl⟩⟩
  ·split at e
   ·rename_i hb;cases e;exact⟨t,ht,rfl,hne,.inr ⟨hb,rfl⟩⟩
   ·cases e
 ·rintro⟨t,ht,hm,hne,he⟩;refine⟨t,ht,?_⟩;unfold eY;rw[if_neg hne];rcases he with⟨h1,h2⟩ | ⟨h1,h2⟩
  ·rw[if_pos h1,hm,h2]
  ·rw[if_neg (fun z=>hne (z.trans h1.symm)),if_pos h1,hm,h2]
theorem xm{n:Nat}{r:List Tie}(hp:Pl n r){x:Int}{s:Step}(h:mD r x s):(0<=x/\x<n)/\0<=s.2/\s.2<n:=by obtain⟨t,ht,_,_,he⟩:=h;have:=hp t ht;omega
theorem IF{r:List Tie}{x:Int}{s:Step}(h:mD r x s):s.1∈r.map (·.m):=by obtain⟨t,ht,hm,_⟩:=h;exact S7.mpr ⟨t,ht,hm⟩
theorem EI{r:List Tie}{R:Int->Step->Prop}(hR:∀p s,R p s->mD r p s){y:Int}:∀{w:List Step} {x:Int},Way R x w y->∀s∈w,s.1∈r.map (·.m)
 |[],_,_,s,hs=>by cases hs
 |u::w,x,h,s,hs=>by
  rcases SH.mp hs with rfl | hs
  ·exact IF (hR _ _ h.1)
  ·exact EI hR h.2 s hs
theorem qG{r:List Tie}{h:List (Int×Int)}{p:Int}{s:Step}:InR (xh h (aK r)) p s↔qz r (hdF h) p s:=by unfold InR xh qz;rw[Ur,oJ];simp
theorem vg{r:List Tie}{h:List (Int×Int)}{p:Int}{s:Step}:InR (xj h (aK r)) p s↔Led r (hdF h) p s:=by unfold InR xj Led;rw[Ur,oJ];simp
theorem B5(w:List Step):cR (eX w)=true:=jH _ _ fun s=>by unfold dj cR;exact nD _ (by intro x hx;simp at hx;rcases hx with rfl | rfl<;>exact uc _)
theorem ki(n:Nat)(R:Int->List Step):cR (cN n R)=true:=jH (fun i:Nat=>eX (R i)) _ fun i=>B5 _
noncomputable def mso(w:List Step):List Int:=w.map (·.1)
noncomputable def msD(w:List Step):Dat:=.lst ((mso w).map Dat.int)
noncomputable def dZ(h:List (Int×Int)):List Int->List (Int×Int)
 |[]=>h
 |m::ms=>dZ (h.filter fun e=>decide (e.1≠m)) ms
theorem oK:∀(ms:List Int) (h:List (Int×Int)) (m:Int),dZ h (ms++[m])=(dZ h ms).filter fun e=>decide (e.1≠m)
 |[],_,_=>rfl
 |_::ms,h,m=>by rw[TU,dZ,dZ,oK ms]
theorem nF:∀(w:List Step) (h:List (Int×Int)),hdF (dZ h (mso w))=iC (hdF h) w
 |[],_=>rfl
 |s::w,h=>by show hdF (dZ _ (mso w))=iC _ w;rw[nF w,qF]
theorem oM:∀(ms:List Int) (h:List (Int×Int)) (x:Int),x∉ms->hdF (dZ h ms) x=hdF h x
 |[],_,_,_=>rfl
 |m::ms,h,x,hx=>by rw[dZ,oM ms _ x fun z=>hx (SA _ z),qF];unfold put;rw[if_neg fun z=>hx (by rw[z];exact Sy)]
theorem Hok.drops{r:List Tie}:∀{ms:List Int} {h:List (Int×Int)},Hok r h->Hok r (dZ h ms)
 |[],_,k=>k
 |m::ms,h,k=>by rw[dZ];exact Hok.drops (ms:=ms) (k.drop m)
theorem zu{r:List Tie}{H:Hd}{y:Int}:∀{w:List Step} {x:Int},Way (Led r H) x w y->∀s∈w,H s.1=some s.2
 |[],_,_,s,hs=>by cases hs
 |u::w,x,h,s,hs=>by
  rcases SH.mp hs with rfl | hs
  ·exact h.1.2
  ·exact zu h.2 s hs
structure IG(r:List Tie)(a b:Int)(ws:List (List Step)):Prop where
 way:∀w∈ws,EF (mD r) a w b
 nd:(ws.map mso).flatten.Nodup
noncomputable def B6(n:Nat)(r:List Tie)(h0 h:List (Int×Int))(a b:Int)(c:Nat)(ws:List (List Step))(c7 c8 c9:Cell):Env:=
 [.sh (cN n (aK r)),.sh (bZ h0),.sh (.int a),.sh (.int b),.sh (.int c),.ow (bZ h),.ow (.lst (ws.map msD)),c7,c8,c9]
theorem B7(n:Nat)(hn:n<=40)(r:List Tie)(hp:Pl n r)(nd:(r.map (·.m)).Nodup)(hl:r.length<=1000)(h:List (Int×Int))(k:Hok r h)(a b:Int)(a0:0<=a)(a1:a<n)(c:Nat)(hc:c<=1000)(fl:Flow r (hdF h) a b c) :
  ∃ws:List (List Step),B0 [cN n (aK r),bZ h,.int a,.int b,.int c]=some (.new (.lst (ws.map msD)))/\ws.length=c/\IG r a b ws:=by
 suffices q:Wr (B0 [cN n (aK r),bZ h,.int a,.int b,.int c]) fun v=>∃ws:List (List Step),v=.new (.lst (ws.map msD))/\ws.length=c/\IG r a b ws by obtain⟨v,h1,ws,rfl,h2⟩:=q;exact⟨ws,h1,h2⟩
 unfold B0
 (refine Dm.Wr.fn ?_ rfl rfl;and_intros)
 refine Ws.seq (Ws.A (We.B (Was.cons (We.v rfl (Was.nil (WB.dict (ks:=hk h) (vs:=hv h) ?_ rfl))))) (by decide));refine WA.new ?_ (by trivial);refine Ws.seq (Ws.A (We.L (Was.nil (WT.mk ?_ rfl rfl (by decide)))) (by decide));refine WA.new ?_ (by trivial);refine Ws.seq (Ws.For (Wi.R1 (We.v rfl (fB.mk ⟨?_,by unfold BIG;omega,by unfold BIG;omega⟩))));refine Ws.inv (fun i:Nat=>Dat.int (0+(i:Nat))) _ _ (SR c) _ _ _ _ _ (fun p q ρ=>∃(h':List (Int×Int)) (ws:List (List Step)) (c7 c8 c9:Cell),ρ=B6 n r h h' a b c ws c7 c8 c9/\Hok r h'/\ws.length=p.length/\Flow r (hdF h') a b q.length/\IG r a b ws/\∀m∈(ws.map mso).flatten,hdF h' m=none)
  ⟨h,[],_,_,_,rfl,k,rfl,by rw[S6];exact fl,⟨by simp,by simp⟩,by simp⟩ ?_ ?_
 ·rintro p x q ρ e ⟨h',ws,c7,c8,c9,rfl,k',wl,fl',W,hno⟩;rw[Tt]at fl';unfold B6;refine Dm.ff rfl (by trivial) ?_;unfold J3;have hR:∀i:Nat,i<n->(aK r i).length<=1000:=fun i _=>Tn (gp r i) hl;obtain⟨s,es,F,hd⟩:=oG n hn (xj h' (aK r)) (fun i _ _ u hu=>(xm hp ((vg (h:=h')).mp hu).1).2) a a0 a1;have hb:b∈sk s:=by
   have:=fl'.reach (S:=fun y=>decide (y∈sk s)) (decide_eq_true F.st) fun y u hy hu=>decide_eq_true (hd y (of_decide_eq_true hy) u (vg.mpr hu));exact of_decide_eq_true this
  obtain⟨w,t1,t2⟩:∃w,(b,w)∈s/\cL (sk s) (sv s) b=some (eX w):=by
   rcases vf s b with h | h
   ·exact h
   ·exact absurd hb h.1
  obtain⟨⟨w1,w2⟩,_⟩:=F.way _ t1;have IA:=F.IA t1;have RZ:=F.len;dsimp only at w1 w2 IA;have w1':Way (Led r (hdF h')) a w b:=w1.mono fun _ _ z=>vg.mp z;have wm:=ou nd (fun p s h=>h.1) w1' w2;have hit:iS (e2 gDx (eF wR [(eFd Es [(eV 0),(eV 5)]),(eV 2)]) (eV 3)) [.sh (cN n (aK r)),.sh (bZ h),.sh (.int a),.sh (.int b),.sh (.int c),.ow (bZ h'),.ow (.lst (ws.map msD)),.sh (.int (0+(x:Nat))),c8,c9]
    = some (w.map dj,[.sh (cN n (aK r)),.sh (bZ h),.sh (.int a),.sh (.int b),.sh (.int c),.ow (bZ h'),.ow (.lst (ws.map msD)),.sh (.int (0+(x:Nat))),c8,c9]):=by
   apply Wi.get;refine Wi.S (We.e2 (We.F (Was.cons (We.Fd (Was.cons (We.v rfl (Was.cons (We.w rfl (Was.nil ?_)))))))));refine⟨_,_,_,rfl,ve n (by omega) (aK r) hR h',ki _ _,?_⟩;refine Was.cons (We.v rfl (Was.nil (WF.box es ?_ rfl rfl rfl rfl)));refine We.v rfl (Wg2.dx t2 ?_ rfl rfl);exact Wk.val (mC ⟨rfl,rfl⟩)
  refine Ws.seq (Ws.A (We.Map dj w (fun s=>s.1) Dat.int ?_ hit rfl (by decide) (by unfold SZ;omega) fun s _=>We.e2 (We.v rfl (We.c (Wg2.ix (Wk.val ⟨rfl,rfl⟩) rfl rfl rfl)))) (by decide));refine WA.new ?_ (by trivial);refine Ws.seq (Ws.For (Wi.S (We.w rfl (Wk.slot (mC ?_) rfl (by trivial)))));refine Ws.inv Dat.int _ _ (mso w) _ _ _ _ _ (fun pm qm ρ=>∃c9,ρ=B6 n r h (dZ h' pm) a b c ws (.sh (.int (0+(x:Nat)))) (.sh (msD w)) c9) ⟨_,rfl⟩ ?_ ?_
  ·rintro pm m qm ρ em ⟨c9,rfl⟩;unfold B6;refine Dm.ff rfl (by trivial) ?_;unfold J2;have hm:m∉pm:=by
    have:(mso w).Nodup:=wm;rw[em]at this;exact fun z=>(Uh.mp this).2.2 m z m Sy rfl
   have hmw:m∈mso w:=by rw[em];simp
   obtain⟨st,hst,rfl⟩:=S7.mp hmw;have hx:hdF (dZ h' pm) st.1=some st.2:=by rw[oM pm h' st.1 hm];exact zu w1' st hst
   refine Ws.E (We.P8 (k:=st.1) (d:=.int st.2) (by rw[pG,hx];rfl) ?_ rfl rfl rfl);refine⟨.sh (.int st.1),?_⟩;rw[oK,(pH _ _).1,(pH _ _).2];rfl
  ·rintro ρ ⟨c9,rfl⟩;unfold B6;refine Ws.App (We.v rfl (Wk.val (qy ?_ rfl (by trivial) ?_))) rfl
   ·have fl2:=fl'.less nd w1' w2;rw[<- nF]at fl2;refine⟨dZ h' (mso w),ws++[w],.sh (.int (0+(x:Nat))),.sh (msD w),c9,?_,k'.drops,by simp[wl],fl2,⟨fun v hv=>?_,?_⟩,fun m hm=>?_⟩
    ·rw[Tg];rfl
    ·rcases Te.mp hv with hv | hv
     ·exact W.way v hv
     ·rw[SV.mp hv];exact⟨w1'.mono fun _ _ z=>z.1,w2⟩
    ·rw[Tg,List.flatten_append];refine Uh.mpr ⟨W.nd,by rw[Dk,U5,T4,List.flatten_nil,Tz];exact wm,fun m hm z hz=>?_⟩;intro e;subst e;have:m∈mso w:=by simpa using hz
     obtain⟨st,hst,rfl⟩:=S7.mp this;have h1:=zu w1' st hst;rw[hno _ hm]at h1;cases h1
    ·rw[Tg,List.flatten_append]at hm;rw[nF];rcases Te.mp hm with hm | hm
     ·by_cases z:m∈mso w
      ·exact kg z
      ·rw[i_ fun u hu e=>z (S7.mpr ⟨u,hu,e⟩)];exact hno m hm
     ·rw[Dk,U5,T4,List.flatten_nil,Tz]at hm;exact kg hm
   ·rw[Sx,wl];have:=congrArg List.length e;rw[S6,SK]at this;unfold SZ;omega
 ·rintro ρ ⟨h',ws,c7,c8,c9,rfl,k',wl,fl',W,hno⟩;unfold B6;refine Ws.R (We.w rfl (WR.slot ?_ rfl));exact⟨ws,rfl,by rw[wl,S6],W⟩
noncomputable def tupI(S:List Int):Dat:=.tup (S.map Dat.int)
noncomputable def ovr(S:List Int)(t:Tie):Bool:=decide (t.a∈S) != decide (t.b∈S)
noncomputable def MT(r:List Tie)(S:List Int):List Int:=(r.filter (ovr S)).map (·.m)
noncomputable def P9(n:Nat)(a b:Int)(S:List Int):Prop:=S.Pairwise (· < ·)/\(∀x∈S,0<=x/\x<n)/\a∈S/\b∉S
noncomputable def mJ:Option (List Int)->Dat
 |none=>.non
 |some S=>tupI S
theorem EJ{l:List Int}(h:l.Nodup):(iB ltI l).Pairwise (· < ·):=by have h1:=sX l;have h2:(iB ltI l).Nodup:=(gX ltI l).nodup_iff.mpr h;refine(List.Pairwise.and h1 h2).imp fun {x y} q=>?_;obtain⟨q1,q2⟩:=q;simp[ltI]at q1;omega
structure Apart(n:Nat)(r:List Tie)(a b:Int)(most:Int)(ws:List (List Step))(o:Option (List Int)):Prop where
 ways:IG r a b ws
 le:(ws.length:Int)<=most
 all:o=none->(ws.length:Int)=most
 side:∀S,o=some S->P9 n a b S/\(MT r S).length=ws.length/\(ws.length:Int)<most
noncomputable def P_(n:Nat)(r:List Tie)(a b most:Int)(c5:Cell)(h:List (Int×Int))(o:Option (List Int))(k:Nat)(c9:Cell):Env:=
 [.sh (.int n),.sh (bJ r),.sh (.int a),.sh (.int b),.sh (.int most),c5,.ow (bZ h),.sh (mJ o),.sh (.int k),c9]
noncomputable def EK(n:Nat)(r:List Tie)(c:Cell):Prop:=c=.ow (cN n (aK r))\/c=.sh (cN n (aK r))
theorem AK(ws:List (List Step)):cR (.lst (ws.map msD))=true:=jH _ _ fun w=>zk _
theorem Ka{n:Nat}{r:List Tie}{c5:Cell}(h5:EK n r c5)(A B C D E G H I J:Cell){Q:Val->Env->Prop}(rest:List FE){Q':List Val->Env->Prop}
  (k:∀x,(x=.slot 5/\c5=.ow (cN n (aK r)))\/(x=.val (cN n (aK r))/\c5=.sh (cN n (aK r)))->Was rest [A,B,C,D,E,c5,G,H,I,J] fun xs ρ2=>Q' (x::xs) ρ2):Was (eV 5::rest) [A,B,C,D,E,c5,G,H,I,J] Q':=by
 rcases h5 with rfl | rfl
 ·exact Was.cons (We.w rfl (k _ (.inl ⟨rfl,rfl⟩)))
 ·exact Was.cons (We.v rfl (k _ (.inr ⟨rfl,rfl⟩)))
theorem sZ(n:Nat)(hn:n<=40)(r:List Tie)(hp:Pl n r)(nd:(r.map (·.m)).Nodup)(hl:r.length<=1000)(a b:Int)(a0:0<=a)(a1:a<n)(b0:0<=b)(b1:b<n)(most:Int)(m0:0<=most)(m1:most<=90) :
  ∃ws o,wU [.int n,bJ r,.int a,.int b,.int most]=some (.val (.tup [.lst (ws.map msD),mJ o]))/\Apart n r a b most ws o:=by
 suffices q:Wr (wU [.int n,bJ r,.int a,.int b,.int most]) fun v=>∃ws o,v=.val (.tup [.lst (ws.map msD),mJ o])/\Apart n r a b most ws o by obtain⟨v,h1,ws,o,rfl,h2⟩:=q;exact⟨ws,o,h1,h2⟩
 unfold wU
 (refine Dm.Wr.fn ?_ rfl rfl;and_intros)
 refine Ws.seq (Ws.A (We.F (Was.cons (We.v rfl (Was.cons (We.v rfl (Was.nil (WF.box (xg n (by omega) r hp hl) ?_ rfl rfl rfl rfl))))))) (by decide));refine WA.new ?_ (by trivial);refine Ws.seq (Ws.A (We.Dn (WA.new ?_ (by trivial))) (by decide));refine Ws.seq (Ws.A (We.c (WA.val ?_ (by trivial))) (by decide));refine Ws.seq (Ws.A (We.c (WA.val ?_ (by trivial))) (by decide));have hR:∀i:Nat,i<n->(aK r i).length<=1000:=fun i _=>Tn (gp r i) hl;refine Ws.seq ?_;refine Ws.wh (fun k ρ=>∃ (c5:Cell) (h:List (Int×Int)) (o:Option (List Int)) (cnt:Nat) (c9:Cell),ρ=P_ n r a b most c5 h o cnt c9∧EK n r c5∧Hok r h∧Flow r (hdF h) a b cnt∧(cnt:Int)≤most∧(∀ S,o=some S→P9 n a b S∧(MT r S).length=cnt∧(cnt:Int)<most) ∧
   k=(most-cnt).toNat+(if o=none then 1 else 0)) ?_ 100 (most.toNat+1) _ (by omega) ⟨_,[],none,0,_,rfl,.inl rfl,Hok.nil r,Flow.zero r a b,m0,by simp,by simp⟩
 rintro k ρ ⟨c5,h,o,cnt,c9,rfl,h5,hok,fl,hle,hs,hk⟩;unfold P_;have fin:o≠none\/¬(cnt:Int)<most->Ws (sR (b7 [(eFd B0 [(eV 5),(eV 6),(eV 2),(eV 3),(eV 8)]),(eV 7)])) [.sh (.int n),.sh (bJ r),.sh (.int a),.sh (.int b),.sh (.int most),c5,.ow (bZ h),.sh (mJ o),.sh (.int cnt),c9]
   (fun _=>∃ws o,RV.val .non=.val (.tup [.lst (ws.map msD),mJ o])/\Apart n r a b most ws o) (fun v _=>∃ws o,v=.val (.tup [.lst (ws.map msD),mJ o])/\Apart n r a b most ws o) (fun _=>False) (fun _=>False):=fun hend=>by
  obtain⟨ws,ep,wl,W⟩:=B7 n hn r hp nd hl h hok a b a0 a1 cnt (by omega) fl;refine Ws.R (We.T (Was.cons (We.Fd (Ka (Q:=fun _ _=>True) h5 _ _ _ _ _ _ _ _ _ _ fun x hx=>?_))));refine Was.cons (We.w rfl (Was.cons (We.v rfl (Was.cons (We.v rfl (Was.cons (We.v rfl (Was.nil ?_))))))));have fin2:Apart n r a b most ws o:=⟨W,by rw[wl];exact hle,fun z=>by rw[wl];have:=hend.resolve_left (fun y=>y z);omega,fun S z=>by rw[wl];exact hs S z⟩
  rcases hx with⟨rfl,rfl⟩ | ⟨rfl,rfl⟩
  ·refine⟨_,_,_,rfl,ep,AK ws,?_⟩;refine Was.cons (We.v rfl (Was.nil (WT.mk ?_ rfl rfl (by exact SJ rfl))));exact⟨ws,o,rfl,fin2⟩
  ·refine⟨_,_,_,rfl,ep,AK ws,?_⟩;refine Was.cons (We.v rfl (Was.nil (WT.mk ?_ rfl rfl (by exact SJ rfl))));exact⟨ws,o,rfl,fin2⟩
 refine Wt.And (Wt.V (We.e2 (We.v rfl (We.v rfl (Wg2.lt (Wb.mk ?_) rfl rfl)))));refine Wif.dec (fun hlt=>?_) fun hge=>?_
 ·refine Wt.V (We.e2 (We.v rfl (We.c (Wg2.isN (Wb.mk ?_) rfl rfl))));cases o with
  |some S=>refine Wif.no rfl ?_;exact fin (.inl (by simp))
  |none=>
   refine Wif.yes rfl ?_;unfold J4;obtain⟨s,es,F,hd⟩:=oG n hn (xh h (aK r)) (fun i _ _ u hu=>(xm hp ((qG (h:=h)).mp hu).1).2) a a0 a1;have RZ:=F.len;have search:∀{N:Env->Prop} {R:RV->Env->Prop} {B C:Env->Prop},(∀c5',EK n r c5'->N [.sh (.int n),.sh (bJ r),.sh (.int a),.sh (.int b),.sh (.int most),c5',.ow (bZ h),.sh (mJ none),.sh (.int cnt),.ow (.dct (sk s) (sv s))]) ->
     Ws (sA 9 (eF wR [(eFd Er [(eV 5),(eV 6)]),(eV 2)])) [.sh (.int n),.sh (bJ r),.sh (.int a),.sh (.int b),.sh (.int most),c5,.ow (bZ h),.sh (mJ none),.sh (.int cnt),c9] N R B C:=fun {N R B C} kN=>by
    refine Ws.A (We.F (Was.cons (We.Fd (Ka (Q:=fun _ _=>True) h5 _ _ _ _ _ _ _ _ _ _ fun x hx=>?_)))) (by decide);refine Was.cons (We.w rfl (Was.nil ?_));rcases hx with⟨rfl,rfl⟩ | ⟨rfl,rfl⟩
    ·refine⟨_,_,_,rfl,jT n (by omega) (aK r) hR h,ki _ _,?_⟩;refine Was.cons (We.v rfl (Was.nil (WF.box es ?_ rfl rfl rfl rfl)));exact WA.new (kN _ (.inr rfl)) (by trivial)
    ·refine⟨_,_,_,rfl,jT n (by omega) (aK r) hR h,ki _ _,?_⟩;refine Was.cons (We.v rfl (Was.nil (WF.box es ?_ rfl rfl rfl rfl)));exact WA.new (kN _ (.inr rfl)) (by trivial)
   refine Ws.seq (search fun c5' h5'=>?_);refine Ws.If (Wt.V (We.e2 (We.v rfl (We.w rfl (Wg2.din (Wb.mk ?_) rfl rfl)))));rw[oF];refine Wif.dec (fun hb=>?_) fun hb=>?_
   ·obtain⟨w,t1,t2⟩:∃w,(b,w)∈s/\cL (sk s) (sv s) b=some (eX w):=by
     rcases vf s b with h | h
     ·exact h
     ·exact absurd hb h.1
    obtain⟨⟨w1,w2⟩,_⟩:=F.way _ t1;dsimp only at w1 w2;have w1':Way (qz r (hdF h)) a w b:=w1.mono fun _ _ z=>qG.mp z;have wms:=EI (fun p s (z:qz r (hdF h) p s)=>z.1) w1';have el:=sY r hl h hok w wms;refine Ws.seq (Ws.E (We.Fm (Was.cons (We.e2 (We.w rfl (We.v rfl (Wg2.dx t2 (Was.nil (WFm.any el ?_ rfl rfl rfl)) rfl rfl))))) rfl));refine Ws.A (We.e2 (We.v rfl (We.c (Wg2.add (WA.val ?_ (by trivial)) rfl rfl)))) (by decide);have fl2:=fl.more nd w1' w2;rw[<- ug]at fl2;refine⟨(most-(cnt+1:Nat)).toNat+1,by rw[hk];simp;omega,c5',cV h w,none,cnt+1,.ow (.dct (sk s) (sv s)),?_,h5',hok.EH wms,fl2,by omega,by simp,by simp⟩;have:((cnt:Int)+1)=((cnt+1:Nat):Int):=by omega
    rw[this]
   ·refine Ws.A (We.B (Was.cons (We.B (Was.cons (We.w rfl (Was.nil (WB.P7 (ks:=sk s) (vs:=sv s) ?_ rfl (by simp only[sk,Sx];omega)))))))) (by decide);refine Was.nil (WB.tuple ?_ rfl);refine WA.val ?_ (by trivial);have pm:=gX ltI (sk s);have hS:∀x,x∈iB ltI (sk s)↔x∈sk s:=fun x=>pm.mem_iff;refine⟨(most-cnt).toNat,by rw[hk];simp,c5',h,some (iB ltI (sk s)),cnt,.ow (.dct (sk s) (sv s)),rfl,h5',hok,fl,hle,fun S z=>?_,by simp⟩;cases z;refine⟨⟨EJ F.nd,fun x hx=>F.pl x ((hS x).mp hx),(hS a).mpr F.st,fun z=>hb ((hS b).mp z)⟩,?_,hlt⟩;have:=fl.cut (S:=fun y=>decide (y∈iB ltI (sk s))) (decide_eq_true ((hS a).mpr F.st)) (decide_eq_false fun z=>hb ((hS b).mp z)) fun y u hy hu=>decide_eq_true ((hS _).mpr (hd y ((hS y).mp (of_decide_eq_true hy)) u (qG.mpr hu)));unfold MT;rw[Sx];exact this
 ·refine Wif.no rfl ?_;exact fin (.inr hge)
theorem di(x n:Int)(h:1<=n):0<=x % n/\x % n<n:=⟨Int.emod_nonneg x (by omega),Int.emod_lt_of_pos x (by omega)⟩
noncomputable def at'(ns:List Int)(i:Int):Int:=ns.getD i.toNat 0
theorem MU(ns:List Int)(i:Int)(h0:0<=i)(h1:i<ns.length):gIx (.lst (ns.map Dat.int)) (.int i)=some (.val (.int (at' ns i))):=by show (atI (ns.map Dat.int) i).map RV.val=_;rw[Dm.mz Dat.int ns i h0 h1];unfold at';rw[Tv,SI (by omega)];rfl
theorem Qa{ns:List Int}{i:Int}{o p:Option Dat}{K:RV->Prop}(h0:0<=i)(h1:i<ns.length)(k:K (.val (.int (at' ns i))))(ho:o=some (.lst (ns.map Dat.int)))(hp:p=some (.int i)):Wg2 gIx o p K:=⟨_,_,_,ho,hp,MU ns i h0 h1,k⟩
theorem Wg2.II{i j:Int}{o p:Option Dat}{K:RV->Prop}(k:K (.val (.int (i*j))))(ho:o=some (.int i))(hp:p=some (.int j))(h:i.natAbs.log2<1000000/\j.natAbs.log2<1000000):Wg2 mq o p K:=⟨_,_,_,ho,hp,by unfold mq;dsimp only;rw[if_pos h],k⟩
noncomputable def bf(x:Int):Dat:=.lst [.int x]
noncomputable abbrev Z60:Int:=1000000000000000000000000000000000000000000000000000000000000
theorem vh(ns:List Int)(k:Int)(h0:0<=k)(h1:k<1000):∃x,qC [.lst (ns.map Dat.int),.int k]=some (.new (bf x)):=by
 suffices h:Wr (qC [.lst (ns.map Dat.int),.int k]) fun v=>∃x,v=.new (bf x) by obtain⟨v,h1,c,rfl⟩:=h;exact⟨c,h1⟩
 unfold qC
 (refine Dm.Wr.fn ?_ rfl rfl;and_intros)
 refine Ws.seq (Ws.A (We.c (WA.val ?_ (by trivial))) (by decide));refine Ws.cut (fun ρ=>∃c:Int,ρ=[.sh (.lst (ns.map Dat.int)),.sh (.int k),.sh (.int c),.un,.un,.un]) ?_ ?_
 ·repeat array_get_dec
  refine⟨fun h=>?_,fun h=>?_⟩
  ·have h:=of_decide_eq_true h
   repeat array_get_dec
   refine Qa h0 (by simpa using h) ?_ rfl rfl
   repeat array_get_dec
   exact⟨_,rfl⟩
  ·repeat array_get_dec
   exact⟨_,rfl⟩
 rintro ρ ⟨c,rfl⟩;refine Ws.seq (Ws.If (Wt.V (We.e2 (We.v rfl (We.e2 (We.c (We.c (Wg2.pow (z:=1000000000000000000) ?_ rfl rfl (by decide) (by decide)))))))));refine Wg2.ge (Wb.mk ?_) rfl rfl;have p60:∀{K:RV->Prop} {o p:Option Dat},K (.val (.int Z60))->o=some (.int 10)->p=some (.int 60)->Wg2 iR o p K:=fun k ho hp=>Wg2.pow (z:=Z60) k ho hp (by decide) (by decide +kernel);refine⟨fun h=>?_,fun h=>?_⟩
 ·refine Ws.R (We.L (Was.cons (We.e2 (We.v rfl ?_))));refine We.e2 (We.e2 (We.e2 (We.e2 (We.e2 (We.c (We.c (p60 ?_ rfl rfl)))))));refine We.e2 (We.c (We.c (p60 ?_ rfl rfl)));refine Wg2.II ?_ rfl rfl (by decide +kernel);refine We.e2 (We.c (We.c (p60 ?_ rfl rfl)));refine Wg2.II ?_ rfl rfl (by decide +kernel);refine We.e2 (We.c (We.c (p60 ?_ rfl rfl)));refine Wg2.II ?_ rfl rfl (by decide +kernel);refine We.e2 (We.c (We.c (p60 ?_ rfl rfl)));refine Wg2.II ?_ rfl rfl (by decide +kernel);refine Wg2.mod ?_ rfl rfl (by decide +kernel);refine Was.nil (WT.mk ?_ rfl rfl (by exact SJ rfl));exact⟨_,rfl⟩
 ·refine Ws.nx ?_;refine Ws.cut (fun ρ=>∃x:Int,(0<=x/\x<2147483647)/\ρ=[.sh (.lst (ns.map Dat.int)),.sh (.int k),.sh (.int c),.sh (.int x),.un,.un]) ?_ ?_
  ·repeat array_get_dec
   ·exact⟨_,di _ _ (by decide),rfl⟩
   ·exact .inr (by unfold B64;omega)
  rintro ρ ⟨x,hx,rfl⟩;refine Ws.seq (Ws.A (We.c (WA.val ?_ (by trivial))) (by decide));refine Ws.seq (Ws.For (Wi.R1 (We.c (fB.mk ⟨?_,by decide,by decide⟩))));refine Ws.inv (fun i:Nat=>Dat.int (0+(i:Nat))) _ _ (SR 40) _ _ _ _ _ (fun p q ρ=>∃(x f:Int) (c5:Cell),(0<=x/\x<2147483647)/\ρ=[.sh (.lst (ns.map Dat.int)),.sh (.int k),.sh (.int c),.sh (.int x),.sh (.int f),c5]) ⟨_,_,_,hx,rfl⟩ ?_ ?_
  ·rintro p i q ρ e ⟨x,f,c5,hx,rfl⟩;refine Dm.ff rfl (by trivial) ?_;unfold EA;refine Ws.cut (fun ρ=>∃y:Int,(0<=y/\y<2147483647)/\ρ=[.sh (.lst (ns.map Dat.int)),.sh (.int k),.sh (.int c),.sh (.int y),.sh (.int f),.sh (.int (0+(i:Nat)))]) ?_ ?_
   ·repeat array_get_dec
    exact⟨_,by have:=di (x*48271+7919*(0+((i:Nat):Int))+3) 2147483629 (by decide);omega,rfl⟩
   rintro ρ ⟨y,hy,rfl⟩;refine Ws.cut (fun ρ=>∃y:Int,(0<=y/\y<2147483647)/\ρ=[.sh (.lst (ns.map Dat.int)),.sh (.int k),.sh (.int c),.sh (.int y),.sh (.int f),.sh (.int (0+(i:Nat)))]) ?_ ?_
   ·repeat array_get_dec
    ·exact⟨_,by have:=di (y*y) 2147483587 (by decide);omega,rfl⟩
    ·exact .inl (by unfold B64;omega)
   rintro ρ ⟨z,hz,rfl⟩
   repeat array_get_dec
   exact⟨_,_,_,hz,rfl⟩
  ·rintro ρ ⟨x,f,c5,hx,rfl⟩
   repeat array_get_dec
   exact⟨_,rfl⟩
theorem IJ(x m:Int)(h0:0<m)(h1:m<jM):cU [bf x,.int m]=some (.val (.int (x % m)),bf (x / m)):=by
 suffices h:WrM (cU [bf x,.int m]) fun v d=>v=.val (.int (x % m))/\d=bf (x / m) by obtain⟨v,d,h1,rfl,rfl⟩:=h;exact h1
 unfold cU;refine WrM.fn ?_ rfl rfl;and_intros;unfold bf
 repeat array_get_dec
 ·refine Ws.Set ?_
  repeat array_get_dec
  ·refine⟨_,0,_,rfl,rfl,rfl,?_⟩
   repeat array_get_dec
   exact⟨_,rfl,rfl,rfl⟩
  ·exact⟨h0,h1⟩
 ·exact h0
noncomputable def Wtk(j:Nat)(m:Int)(ρ1:Env)(Q:Val->Env->Prop):Prop:=∃x ρ3,Q (.val (.int (x % m))) ρ3/\ρ1[j]?=some (.ow (bf x))/\ρ1.set j (.ow (bf (x / m)))=ρ3/\0<m/\m<jM
theorem g9{j:Nat}{x m:Int}{ρ1 ρ3:Env}{Q:Val->Env->Prop}(q:Q (.val (.int (x % m))) ρ3)(h2:ρ1[j]?=some (.ow (bf x)))(hn:ρ1.set j (.ow (bf (x / m)))=ρ3)(h0:0<m)(h1:m<jM):Wtk j m ρ1 Q:=⟨_,_,q,h2,hn,h0,h1⟩
theorem We.take{j:Nat}{a:FE}{ρ:Env}{d0:Dat}{Q:Val->Env->Prop}(h:We a ρ fun v ρ1=>fB v fun m=>Wtk j m ρ1 Q)(h0:ρ[j]?=some (.ow d0)):We (eFm cU j [a]) ρ Q:=by refine We.Fm (Was.cons ?_) h0;obtain⟨v,ρ1,e1,m,rfl,x,ρ3,q,e2,e3,m0,m1⟩:=h;exact⟨_,_,e1,Was.nil (WFm.any (IJ x m m0 m1) q e2 rfl e3)⟩
theorem We.drw{j:Nat}{a:FE}{ρ:Env}{x m:Int}{Q:Val->Env->Prop}(ha:a ρ=some (.val (.int m),ρ))(h0:0<m)(h1:m<jM)(hj:ρ[j]?=some (.ow (bf x)))(k:∀t x':Int,0<=t->t<m->∀ρ3,ρ.set j (.ow (bf x'))=ρ3->Q (.val (.int t)) ρ3):We (eFm cU j [a]) ρ Q:=
 We.take ⟨_,_,ha,m,rfl,g9 (k _ _ (di x m (by omega)).1 (di x m (by omega)).2 _ rfl) hj rfl h0 h1⟩ hj
noncomputable def Good(n:Int):Int->List Tie->Prop
 |_,[]=>True
 |lo,t::r=>lo<=t.m/\0<=t.a/\t.a<=t.b/\t.b<n/\Good n (t.m+1) r
theorem Good.pl{n:Nat}:∀{r:List Tie} {lo:Int},Good n lo r->Pl n r
 |[],_,_,t,ht=>by cases ht
 |u::r,lo,h,t,ht=>by
  obtain⟨h1,h2,h3,h4,h5⟩:=h;rcases SH.mp ht with rfl | ht
  ·omega
  ·exact Good.pl h5 t ht
theorem Good.lo{n:Int}:∀{r:List Tie} {lo:Int},Good n lo r->∀t∈r,lo<=t.m
 |[],_,_,t,ht=>by cases ht
 |u::r,lo,h,t,ht=>by
  obtain⟨h1,h2,h3,h4,h5⟩:=h;rcases SH.mp ht with rfl | ht
  ·exact h1
  ·have:=Good.lo h5 t ht;omega
theorem Good.nd{n:Int}:∀{r:List Tie} {lo:Int},Good n lo r->(r.map (·.m)).Nodup
 |[],_,_=>by simp
 |u::r,lo,h=>by obtain⟨h1,h2,h3,h4,h5⟩:=h;rw[Dk,S1];refine⟨fun z=>?_,Good.nd h5⟩;obtain⟨t,ht,e⟩:=S7.mp z;have:=Good.lo h5 t ht;omega
theorem Good.weak{n:Int}:∀{r:List Tie} {lo lo':Int},lo'<=lo->Good n lo r->Good n lo' r
 |[],_,_,_,_=>trivial
 |_::_,_,_,h,k=>⟨by have:=k.1;omega,k.2⟩
theorem Good.filter{n:Int}(p:Tie->Bool):∀{r:List Tie} {lo:Int},Good n lo r->Good n lo (r.filter p)
 |[],_,_=>trivial
 |u::r,lo,h=>by
  obtain⟨h1,h2,h3,h4,h5⟩:=h;by_cases q:p u=true
  ·rw[TH q];exact⟨h1,h2,h3,h4,Good.filter p h5⟩
  ·rw[TF q];exact Good.weak (by omega) (Good.filter p h5)
theorem Good.snoc{n:Int}:∀{r:List Tie} {lo hi:Int} {t:Tie},Good n lo r->(∀u∈r,u.m<hi)->lo<=hi->hi=t.m->0<=t.a->t.a<=t.b->t.b<n->Good n lo (r++[t])
 |[],_,_,_,_,_,h,e,h1,h2,h3=>⟨by omega,h1,h2,h3,trivial⟩
 |u::r,lo,hi,t,h,hu,hl,e,h1,h2,h3=>by obtain⟨k1,k2,k3,k4,k5⟩:=h;exact⟨k1,k2,k3,k4,Good.snoc k5 (fun v hv=>hu v (SA _ hv)) (by have:=hu u Sy;omega) e h1 h2 h3⟩
theorem IK(x:Int):∃(n x':Int),wW [bf x]=some (.val (.int n),bf x')/\1<=n/\n<=10:=by
 suffices h:WrM (wW [bf x]) fun v d=>∃n x':Int,v=.val (.int n)/\d=bf x'/\1<=n/\n<=10 by obtain⟨v,d,h1,n,x',rfl,rfl,h2⟩:=h;exact⟨n,x',h1,h2⟩
 unfold wW;refine WrM.fn ?_ rfl rfl;and_intros;refine Ws.R (We.e2 ?_)
 repeat array_get_dec
 refine We.drw (m:=8) rfl (by decide) (by decide) rfl fun t x' h0 h1 ρ3 e=>?_;subst e;have:t=0\/t=1\/t=2\/t=3\/t=4\/t=5\/t=6\/t=7:=by omega
 rcases this with rfl | rfl | rfl | rfl | rfl | rfl | rfl | rfl <;>
 ·refine Wg2.ix ?_ rfl rfl rfl;exact⟨_,rfl,_,x',rfl,rfl,by decide,by decide⟩
theorem ix4(a b c d:Int)(x:Int)(h0:0<=x)(h:x<4):gIx (.lst [.int a,.int b,.int c,.int d]) (.int x)=some (.val (.int (if x=0 then a else if x=1 then b else if x=2 then c else d))):=by
 have:x=0\/x=1\/x=2\/x=3:=by omega
 rcases this with rfl | rfl | rfl | rfl<;>rfl
noncomputable abbrev Z28:Int:=10000000000000000000000000000
noncomputable abbrev Z30:Int:=1000000000000000000000000000000
noncomputable def RE(pool:Int)(n most many kind step times way MV:Int)(r:List Tie)(c10 c11 c12:Cell):Env:=
 [.ow (bf pool),.sh (.int n),.sh (.int most),.sh (.int many),.sh (.int kind),.sh (.int step),.sh (.int times),.sh (.int way),.sh (.int MV),.ow (bJ r),c10,c11,c12]
theorem IL(a b:Int):(if b<a then b else a)<=(if b>a then b else a):=by split<;>split<;>omega
theorem B8(x n most:Int)(n1:1<=n)(n10:n<=10)(m0:0<=most)(m60:most<=60) :
  ∃(r:List Tie) (x':Int),wX [bf x,.int n,.int most]=some (.new (bJ r),bf x')/\Good n 0 r/\(r.length:Int)<=most/\∀t∈r,t.m<=Z30:=by
 suffices hh:WrM (wX [bf x,.int n,.int most]) fun v d=>∃(r:List Tie) (x':Int),v=.new (bJ r)/\d=bf x'/\Good n 0 r/\(r.length:Int)<=most/\∀t∈r,t.m<=Z30 by obtain⟨v,d,h1,h,x',rfl,rfl,h2⟩:=hh;exact⟨h,x',h1,h2⟩
 unfold wX;refine WrM.fn ?_ rfl rfl;and_intros;refine Ws.seq (Ws.A ?_ (by decide));refine We.drw (m:=most+1) rfl (by omega) (by unfold jM;omega) rfl fun many x1 h1 h2 ρ3 e=>?_;subst e;refine WA.val ?_ (by trivial);refine Ws.seq (Ws.A ?_ (by decide));refine We.drw (m:=4) rfl (by decide) (by decide) rfl fun kind x2 k1 k2 ρ3 e=>?_;subst e;refine WA.val ?_ (by trivial);refine Ws.cut (fun ρ=>∃step:Int,(1<=step/\step<=1000000/\(kind=3->step<=1000))/\ρ=[.ow (bf x2),.sh (.int n),.sh (.int most),.sh (.int many),.sh (.int kind),.sh (.int step),.un,.un,.un,.un,.un,.un,.un]) ?_ ?_
 ·refine Ws.A (We.e2 (We.L (Was.cons (We.c (Was.cons (We.c (Was.cons (We.e2 (We.c (We.c (Wg2.pow (z:=1000000) ?_ rfl rfl (by decide) (by decide)))))))))))) (by decide);refine Was.cons (We.c (Was.nil (WT.mk ?_ rfl rfl (by exact SJ rfl))));refine We.v rfl (Wg2.ix ?_ rfl rfl (ix4 1 3 1000000 1000 kind k1 k2));refine WA.val ?_ (by trivial);refine⟨_,?_,rfl⟩;have:kind=0\/kind=1\/kind=2\/kind=3:=by omega
  rcases this with q | q | q | q<;>rw[q]<;>decide
 rintro ρ ⟨step,hs,rfl⟩;refine Ws.cut (fun ρ=>∃times:Int,(0<=times/\step*times<=Z28)/\ρ=[.ow (bf x2),.sh (.int n),.sh (.int most),.sh (.int many),.sh (.int kind),.sh (.int step),.sh (.int times),.un,.un,.un,.un,.un,.un]) ?_ ?_
 ·refine Ws.A (We.e2 (We.L (Was.cons (We.c (Was.cons (We.e2 (We.c (We.c (Wg2.pow (z:=10000000000000000000000000) ?_ rfl rfl (by decide) (by decide)))))))))) (by decide);refine Was.nil (WT.mk ?_ rfl rfl (by exact SJ rfl));refine We.B (Was.cons (We.e2 (We.v rfl (We.c (Wg2.eq ?_ rfl rfl)))));refine Was.nil (WB.int ?_ rfl);by_cases q:kind=3
  ·rw[decide_eq_true q];refine Wg2.ix (v:=.int 10000000000000000000000000) ?_ rfl rfl rfl;exact WA.val ⟨10000000000000000000000000,⟨by decide,by have:=hs.2.2 q;unfold Z28;omega⟩,rfl⟩ (by trivial)
  ·rw[decide_eq_false q];refine Wg2.ix (v:=.int 1) ?_ rfl rfl rfl;exact WA.val ⟨1,⟨by decide,by unfold Z28;omega⟩,rfl⟩ (by trivial)
 rintro ρ ⟨times,⟨ht,hst⟩,rfl⟩;have tb:∀t:Int,0<=t->t<step->t*times<=Z28:=fun t _ t2=>Int.le_trans (Int.mul_le_mul_of_nonneg_right (Int.le_of_lt t2) ht) hst;refine Ws.seq (Ws.A ?_ (by decide));refine We.drw (m:=4) rfl (by decide) (by decide) rfl fun way x3 w1 w2 ρ3 e=>?_;subst e;refine WA.val ?_ (by trivial);refine Ws.cut (fun ρ=>∃x4 mo:Int,(0<=mo/\mo<=Z28)/\ρ=[.ow (bf x4),.sh (.int n),.sh (.int most),.sh (.int many),.sh (.int kind),.sh (.int step),.sh (.int times),.sh (.int way),.sh (.int mo),.un,.un,.un,.un]) ?_ ?_
 ·refine Ws.A (We.e2 ?_) (by decide);refine We.drw (m:=step) rfl (by omega) (by unfold jM;omega) rfl fun t x4 t1 t2 ρ3 e=>?_;subst e;refine We.v rfl (Wg2.mul ?_ rfl rfl (.inl (by unfold B64;omega)));exact WA.val ⟨_,_,⟨Int.mul_nonneg t1 ht,tb t t1 t2⟩,rfl⟩ (by trivial)
 rintro ρ ⟨x4,mo,hmo,rfl⟩;refine Ws.seq (Ws.A (We.L (Was.nil (WT.mk ?_ rfl rfl (by decide)))) (by decide));refine WA.new ?_ (by trivial);refine Ws.seq (Ws.For (Wi.R1 (We.v rfl (fB.mk ⟨?_,by unfold BIG;omega⟩))));refine Ws.inv (fun i:Nat=>Dat.int (0+(i:Nat))) _ _ (SR many.toNat) _ _ _ _ _ (fun p q ρ=>∃(x mo:Int) (r:List Tie) (c10 c11 c12:Cell),ρ=RE x n most many kind step times way mo r c10 c11 c12/\Good n 0 r/\r.length=p.length/\(∀u∈r,u.m<mo)/\0<=mo/\mo<=((p.length:Int)+1)*(Z28+1))
  ⟨_,_,[],_,_,_,rfl,trivial,rfl,(fun u hu=>by cases hu),hmo.1,by have:=hmo.2;simp;omega⟩ ?_ ?_
 ·rintro p i q ρ e ⟨x,mo,r,c10,c11,c12,rfl,hg,hl,hu,hm,hM⟩;have lp:p.length<100:=by
   have:(SR many.toNat).length=p.length+(q.length+1):=by rw[e];simp
   rw[S6]at this;omega
  unfold RE;refine Dm.ff rfl (by trivial) ?_;unfold EB;refine Ws.seq (Ws.A ?_ (by decide));refine We.drw (m:=n) rfl (by omega) (by unfold jM;omega) rfl fun one y1 o1 o2 ρ3 e=>?_;subst e;refine WA.val ?_ (by trivial);refine Ws.seq (Ws.A ?_ (by decide));refine We.drw (m:=n) rfl (by omega) (by unfold jM;omega) rfl fun oth y2 u1 u2 ρ3 e=>?_;subst e;refine WA.val ?_ (by trivial);refine Ws.cut (fun ρ=>∃o:Int,(0<=o/\o<n)/\ρ=RE y2 n most many kind step times way mo r (.sh (.int (0+(i:Nat)))) (.sh (.int one)) (.sh (.int o))) ?_ ?_
  ·refine Ws.If (Wt.V (We.e2 (We.v rfl (We.c (Wg2.eq (Wb.mk ?_) rfl rfl)))));refine Wif.dec (fun _=>?_) fun _=>?_
   ·refine Ws.A (We.e2 (We.e2 (We.v rfl (We.c (Wg2.add (We.v rfl (Wg2.mod ?_ rfl rfl (by omega))) rfl rfl))))) (by decide);exact WA.val ⟨_,di _ n n1,rfl⟩ (by trivial)
   ·exact Ws.nx ⟨oth,⟨u1,u2⟩,rfl⟩
  rintro ρ ⟨o,⟨q1,q2⟩,rfl⟩;refine Ws.cut (fun ρ=>∃o:Int,(0<=o/\o<n)/\ρ=RE y2 n most many kind step times way mo r (.sh (.int (0+(i:Nat)))) (.sh (.int one)) (.sh (.int o))) ?_ ?_
  ·unfold RE;refine Ws.If (Wt.V (We.e2 (We.v rfl (We.c (Wg2.eq (Wb.mk ?_) rfl rfl)))));refine Wif.dec (fun _=>?_) fun _=>?_
   ·refine Ws.A (We.e2 (We.e2 (We.e2 (We.e2 (We.v rfl (We.e2 (We.v rfl (We.c (Wg2.mod ?_ rfl rfl (by decide)))))))))) (by decide);refine Wg2.add ?_ rfl rfl;refine We.c (Wg2.add ?_ rfl rfl);refine We.B (Was.cons (We.v rfl (Was.cons (We.c (Was.nil (WB.min2 ?_ rfl))))));refine Wg2.mod ?_ rfl rfl (by split<;>omega);refine We.v rfl (Wg2.mod ?_ rfl rfl (by omega));exact WA.val ⟨_,di _ n n1,rfl⟩ (by trivial)
   ·exact Ws.nx ⟨o,⟨q1,q2⟩,rfl⟩
  rintro ρ ⟨o,⟨q1,q2⟩,rfl⟩;unfold RE;refine Ws.seq (Ws.App (We.T (Was.cons (We.v rfl (Was.cons (We.B (Was.cons (We.v rfl (Was.cons (We.v rfl (Was.nil (WB.min2 ?_ rfl))))))))))) rfl);refine Was.cons (We.B (Was.cons (We.v rfl (Was.cons (We.v rfl (Was.nil (WB.max2 ?_ rfl)))))));refine Was.nil (WT.mk ?_ rfl rfl (by exact SJ rfl));refine Wk.val (qy ?_ rfl (by trivial) (by rw[Sx];unfold SZ;omega));refine Ws.A (We.e2 (We.e2 (We.v rfl (We.c (Wg2.add ?_ rfl rfl))))) (by decide);refine We.e2 ?_;refine We.drw (m:=step) rfl (by omega) (by unfold jM;omega) rfl fun t x4 t1 t2 ρ3 e=>?_;subst e;refine We.v rfl (Wg2.mul ?_ rfl rfl (.inl (by unfold B64;omega)));refine Wg2.add ?_ rfl rfl;refine WA.val ?_ (by trivial);have tn:=Int.mul_nonneg t1 ht;refine⟨x4,mo+1+t*times,r++[⟨mo,(if o<one then o else one),(if o>one then o else one)⟩],.sh (.int (0+(i:Nat))),.sh (.int one),.sh (.int o),?_,?_,by simp[hl],?_,by omega,?_⟩
  ·unfold bJ;rw[Tg];rfl
  ·refine Good.snoc (hi:=mo) hg hu hm rfl ?_ (IL one o) ?_
   ·show 0<=(if o<one then o else one);split<;>omega
   ·show (if o>one then o else one)<n;split<;>omega
  ·intro u hu';rcases Te.mp hu' with h | h
   ·have:=hu u h;omega
   ·rw[SV.mp h];show mo<_;omega
  ·have:=tb t t1 t2;rw[SK,TQ];have e:(((p.length+1:Nat):Int)+1)*(Z28+1)=((p.length:Int)+1)*(Z28+1)+(Z28+1):=by
    rw[Int.natCast_add,VN (((p.length:Int))+((1:Nat):Int)) 1,Int.one_mul];rfl
   rw[e];omega
 ·rintro ρ ⟨x,mo,r,c10,c11,c12,rfl,hg,hl,hu,hm,hM⟩;unfold RE;refine Ws.R (We.w rfl (WR.slot ?_ rfl));rw[S6]at hM hl;refine⟨_,rfl,r,x,rfl,rfl,hg,?_,fun t ht=>?_⟩
  ·rw[hl];omega
  ·have h1:=hu t ht;have h2:((many.toNat:Int)+1)*(Z28+1)<=61*(Z28+1):=Int.mul_le_mul_of_nonneg_right (by omega) (by decide);have h3:(61:Int)*(Z28+1)<=Z30:=by decide
   omega
theorem IM{x y:Tie}(h:x.m=y.m/\x.a=y.a/\x.b=y.b):x=y:=by cases x;cases y;simp only[Tie.mk.injEq];exact h
instance R0:DecidableEq Tie:=fun x y=>decidable_of_iff (x.m=y.m/\x.a=y.a/\x.b=y.b) ⟨IM,fun h=>by rw[h];exact⟨rfl,rfl,rfl⟩⟩
theorem xo(i:Int):Eu [.int i]=some (.val (.bl true)):=by
 apply Wr.eq;unfold Eu
 (refine Dm.Wr.fn ?_ rfl rfl;and_intros)
 refine Ws.R (We.And (We.e1 (We.v rfl (Wg1.mk ?_ rfl rfl))));refine Wb.mk (Wif.t (We.Not (We.e1 (We.v rfl (Wg1.mk ?_ rfl rfl)))));exact Wb.mk rfl
theorem eZ(i lo hi:Int)(h0:lo<=i)(h1:i<=hi):f_ [.int i,.int lo,.int hi]=some (.val (.bl true)):=by unfold f_;simp[fn,sR,lX,eF,eAs,eV,pks,pk,xo,RV.cj,RV.dat,iA,j5,gLe,h0,h1]
theorem qH(k:Int)(h0:1<=k)(h1:k<=6):AE [.int k]=some (.val .non):=by
 have e:ja [.int k]=some (.val (.bl true)):=by
  apply Wr.eq;unfold ja
  (refine Dm.Wr.fn ?_ rfl rfl;and_intros)
  refine Ws.R (We.F (Was.cons (We.v rfl (Was.cons (We.c (Was.cons (We.c (Was.nil (WF.val (eZ k 1 6 h0 h1) ?_ rfl rfl)))))))));rfl
 apply Wr.eq;unfold AE
 (refine Dm.Wr.fn ?_ rfl rfl;and_intros)
 refine Ws.If (Wt.Not (Wt.V (We.F (Was.cons (We.v rfl (Was.nil (WF.val e ?_ rfl rfl)))))));exact Wb.mk (Wif.f (Ws.nx rfl))
noncomputable def mgf(f:Int->Int)(a b:Int):Int->Int:=fun x=>if f x=f b then f a else f x
inductive Con(ts:List Tie):Int->Int->Prop
 |refl (x:Int):Con ts x x
 |tie (t:Tie):t∈ts->Con ts t.a t.b
 |symm {x y:Int}:Con ts x y->Con ts y x
 |trans {x y z:Int}:Con ts x y->Con ts y z->Con ts x z
theorem Con.mono{ts us:List Tie}(h:∀t∈ts,t∈us){x y:Int}(c:Con ts x y):Con us x y:=by
 induction c with
 |refl x=>exact .refl x
 |tie t m=>exact .tie t (h t m)
 |symm _ ih=>exact .symm ih
 |trans _ _ i1 i2=>exact .trans i1 i2
noncomputable def Tells(f:Int->Int)(ts:List Tie):Prop:=∀x y,f x=f y↔Con ts x y
theorem Con.nil{x y:Int}(c:Con [] x y):x=y:=by
 induction c with
 |refl x=>rfl
 |tie t m=>cases m
 |symm _ ih=>exact ih.symm
 |trans _ _ i1 i2=>exact i1.trans i2
theorem tells_nil:Tells (fun x=>x) []:=fun x y=>⟨fun h=>by cases h;exact .refl _,fun c=>c.nil⟩
theorem tells_mgf{f:Int->Int}{ts:List Tie}(h:Tells f ts)(t:Tie)(a b:Int)(hab:(a=t.a/\b=t.b)\/(a=t.b/\b=t.a)):Tells (mgf f a b) (t::ts):=by
 have up:∀{x y},f x=f y->Con (t::ts) x y:=fun e=>Con.mono (fun u m=>SA _ m) ((h _ _).mp e);have ab:Con (t::ts) a b:=by
  rcases hab with⟨rfl,rfl⟩ | ⟨rfl,rfl⟩
  ·exact .tie t Sy
  ·exact .symm (.tie t Sy)
 intro x y;unfold mgf;constructor
 ·intro e;by_cases hx:f x=f b
  ·rw[if_pos hx]at e;by_cases hy:f y=f b
   ·exact up (hx.trans hy.symm)
   ·rw[if_neg hy]at e;exact .trans (up hx) (.trans (.symm ab) (up e))
  ·rw[if_neg hx]at e;by_cases hy:f y=f b
   ·rw[if_pos hy]at e;exact .trans (up e) (.trans ab (.symm (up hy)))
   ·rw[if_neg hy]at e;exact up e
 ·intro c;have key:∀{x y:Int},Con (t::ts) x y->(if f x=f b then f a else f x)=(if f y=f b then f a else f y):=fun c=>by
   induction c with
   |refl x=>rfl
   |tie u m=>
    rcases SH.mp m with rfl | m
    ·rcases hab with⟨rfl,rfl⟩ | ⟨rfl,rfl⟩
     ·rw[if_pos (rfl:f u.b=f u.b)];split
      ·rfl
      ·rfl
     ·rw[if_pos (rfl:f u.a=f u.a)];split
      ·rfl
      ·rfl
    ·have e:=(h u.a u.b).mpr (.tie u m);rw[e]
   |symm _ ih=>exact ih.symm
   |trans _ _ i1 i2=>exact i1.trans i2
  exact key c
noncomputable def lay(r:List Tie)(ms:List Int)(j:Int):List Tie:=((r.zip ms).filter fun p=>decide (p.2=j)).map (·.1)
theorem mK(t:Tie)(m:Int)(r:List Tie)(ms:List Int)(j:Int):lay (t::r) (m::ms) j=if m=j then t::lay r ms j else lay r ms j:=by unfold lay;rw[Vi,U0];by_cases h:m=j<;>simp[h]
noncomputable def uh(k:Int)(r:List Tie)(ms:List Int)(t:Tie)(m:Int):Prop:=
 (m=0/\∀j,1<=j->j<=k->Con (lay r ms j) t.a t.b)\/(1<=m/\m<=k/\¬Con (lay r ms m) t.a t.b/\∀j,1<=j->j<m->Con (lay r ms j) t.a t.b)
noncomputable def cW(k:Int):List Tie->List Int->Prop
 |[],[]=>True
 |t::r,m::ms=>cW k r ms/\uh k r ms t m
 |_,_=>False
theorem uh.uniq{k:Int}{r:List Tie}{ms:List Int}{t:Tie}{m m':Int}(h:uh k r ms t m)(h':uh k r ms t m'):m=m':=by
 rcases h with⟨rfl,h⟩ | ⟨h1,h2,h3,h4⟩
 ·rcases h' with⟨rfl,_⟩ | ⟨g1,g2,g3,_⟩
  ·rfl
  ·exact absurd (h m' g1 g2) g3
 ·rcases h' with⟨rfl,h'⟩ | ⟨g1,g2,g3,g4⟩
  ·exact absurd (h' m h1 h2) h3
  ·rcases Int.lt_trichotomy m m' with q | q | q
   ·exact absurd (g4 m h1 q) h3
   ·exact q
   ·exact absurd (h4 m' g1 q) g3
theorem cW.len{k:Int}:∀{r:List Tie} {ms:List Int},cW k r ms->ms.length=r.length
 |[],[],_=>rfl
 |_::r,_::ms,h=>by simp[cW.len h.1]
 |[],_::_,h=>h.elim
 |_::_,[],h=>h.elim
theorem cW.uniq{k:Int}:∀{r:List Tie} {ms ms':List Int},cW k r ms->cW k r ms'->ms=ms'
 |[],[],[],_,_=>rfl
 |_::r,m::ms,m'::ms',h,h'=>by have e:=cW.uniq h.1 h'.1;subst e;rw[h.2.uniq h'.2]
 |[],_::_,_,h,_=>h.elim
 |[],[],_::_,_,h=>h.elim
 |_::_,[],_,h,_=>h.elim
 |_::_,_::_,[],_,h=>h.elim
noncomputable def lab(n:Nat)(f:Int->Int):Dat:=.lst ((SR n).map fun(i:Nat)=>Dat.int (f i))
theorem vj(n:Nat)(f:Int->Int)(x:Int)(h0:0<=x)(h1:x<n):gIx (lab n f) (.int x)=some (.val (.int (f x))):=by
 unfold lab gIx atI ixN;have hx:x.toNat<n:=by omega
 have hc:((x.toNat:Nat):Int)=x:=by omega
 simp only[Sx,S6,h0,h1,if_true];simp[Uk hx,hc]
theorem MW(n:Nat):Dat.lst (ups 0 n)=lab n fun x=>x:=by unfold ups lab;simp
theorem IP(n:Nat)(f:Int->Int):lab n f=.lst (((SR n).map fun(i:Nat)=>f i).map Dat.int):=by unfold lab;rw[T7];rfl
theorem B9(n:Nat)(hn:n<=10)(f:Int->Int)(a b:Int)(a0:0<=a)(a1:a<n)(b0:0<=b)(b1:b<n):AF [lab n f,.int a,.int b]=some (.new (lab n (mgf f a b))):=by
 apply Wr.eq;unfold AF
 (refine Dm.Wr.fn ?_ rfl rfl;and_intros)
 refine Ws.R (We.BX (fun i:Nat=>Dat.int (f i)) (SR n) (fun i:Nat=>mgf f a b i) Dat.int (d:=lab n f) ?_ rfl rfl rfl (by decide) (by rw[S6];unfold SZ;omega) fun i _=>?_)
 ·rw[<- IP];rfl
 ·refine We.If (Wt.V (We.e2 (We.v rfl (We.e2 (We.v rfl (We.v rfl (Wg2.ix ?_ rfl rfl (vj n f b b0 b1))))))));refine Wg2.eq (Wb.mk ⟨fun g=>?_,fun g=>?_⟩) rfl rfl
  ·refine We.e2 (We.v rfl (We.v rfl (Wg2.ix (Wk.val ⟨?_,rfl⟩) rfl rfl (vj n f a a0 a1))));unfold mgf;rw[if_pos (of_decide_eq_true g)]
  ·refine We.v rfl (Wk.val ⟨?_,rfl⟩);unfold mgf;rw[if_neg (of_decide_eq_false g)]
theorem xq{α:Type}(enc:α->Dat)(d:α):∀(k:Nat) (l:List α),l9 k (l.map enc)=(SR l.length).map fun i=>.tup [.int ((k+i:Nat):Int),enc (l.getD i d)]
 |k,[]=>rfl
 |k,x::l=>by
  rw[Dk,l9,xq enc d (k+1) l,Tt,List.range_succ_eq_map,Dk,T7]
  congr 1
  apply U9;intro i _;show _=Dat.tup [.int ((k+(i+1):Nat):Int),enc ((x::l).getD (i+1) d)];rw[show k+1+i=k+(i+1) by omega];rfl
theorem EL{n k:Nat}{p q:List Nat}(e:SR n=p++k::q):k=p.length/\k<n:=by
 have h1:(SR n)[p.length]?=some k:=by rw[e,SW (Sz _),VI];rfl
 have h2:p.length<n:=by
  have:(SR n).length=p.length+(q.length+1):=by rw[e];simp
  rw[S6]at this;omega
 rw[Uk h2]at h1;injection h1 with h1
 omega
noncomputable def EM(gs:List (Int->Int))(a b:Int)(i:Nat)(num:Int):Prop:=
 (num=0/\∀(j:Nat) f,j<i->gs[j]?=some f->f a=f b)\/∃(j:Nat) (f:Int->Int),j<i/\gs[j]?=some f/\f a≠f b/\(∀(j':Nat) f',j'<j->gs[j']?=some f'->f' a=f' b)/\num=(j:Int)+1
theorem EN(n:Nat)(gs:List (Int->Int))(a b:Int)(a0:0<=a)(a1:a<n)(b0:0<=b)(b1:b<n):∃num:Int,wV [.lst (gs.map (lab n)),.int a,.int b]=some (.val (.int num))/\EM gs a b gs.length num:=by
 suffices hh:Wr (wV [.lst (gs.map (lab n)),.int a,.int b]) fun v=>∃num:Int,v=.val (.int num)/\EM gs a b gs.length num by obtain⟨v,h1,num,rfl,h2⟩:=hh;exact⟨num,h1,h2⟩
 unfold wV
 (refine Dm.Wr.fn ?_ rfl rfl;and_intros)
 refine Ws.seq (Ws.For (Wi.En (We.v rfl (Wk.val ⟨_,rfl,?_⟩))));rw[xq (lab n) fun x=>x];refine Ws.inv (fun i:Nat=>Dat.tup [.int ((0+i:Nat):Int),lab n (gs.getD i fun x=>x)]) _ _ (SR gs.length) _ _ _ _ _ (fun p q ρ=>∃c3 c4:Cell,ρ=[.sh (.lst (gs.map (lab n))),.sh (.int a),.sh (.int b),c3,c4]/\∀(j:Nat) f,j<p.length->gs[j]?=some f->f a=f b) ⟨_,_,rfl,fun j f hj=>by simp at hj⟩ ?_ ?_
 ·rintro p i q ρ e ⟨c3,c4,rfl,low⟩;obtain⟨ip,il⟩:=EL e;have hf:gs[i]?=some (gs.getD i fun x=>x):=by rw[Tv,SI il];rfl
  generalize (gs.getD i fun x=>x)=f at hf
  refine Dm.ff rfl (by trivial) ?_;unfold Ex;refine Ws.If (Wt.V (We.e2 (We.e2 (We.v rfl (We.v rfl (Wg2.ix ?_ rfl rfl (vj n f a a0 a1)))))));refine We.e2 (We.v rfl (We.v rfl (Wg2.ix ?_ rfl rfl (vj n f b b0 b1))));refine Wg2.ne (Wb.mk ?_) rfl rfl;by_cases h:f a=f b
  ·refine Wif.no (by simp[h]) (Ws.nx ⟨_,_,rfl,fun j g hj hg=>?_⟩);rw[SK,TQ]at hj;by_cases q:j=i
   ·subst q;rw[hf]at hg;cases hg;exact h
   ·exact low j g (by omega) hg
  ·refine Wif.yes (by simp[h]) (Ws.R (We.e2 (We.v rfl (We.c (Wg2.add ?_ rfl rfl)))));exact⟨_,rfl,.inr ⟨i,f,il,hf,h,fun j g hj=>low j g (by omega),by omega⟩⟩
 ·rintro ρ ⟨c3,c4,rfl,low⟩;rw[S6]at low;exact Ws.R (We.c ⟨0,rfl,.inl ⟨rfl,low⟩⟩)
noncomputable def Ends(n:Int)(r:List Tie):Prop:=∀t∈r,0<=t.a/\t.a<n/\0<=t.b/\t.b<n
noncomputable def IQ(k:Nat)(gs:List (Int->Int))(r:List Tie)(ms:List Int):Prop:=gs.length=k/\∀(j:Nat) f,gs[j]?=some f->Tells f (lay r ms ((j:Int)+1))
theorem map_set(n:Nat)(gs:List (Int->Int))(i:Nat)(f:Int->Int):(gs.map (lab n)).set i (lab n f)=(gs.set i f).map (lab n):=by rw[List.map_set]
noncomputable def EO(o:Bool)(gs gs':List (Int->Int))(a b:Int)(i:Nat)(num:Int):Prop:=
 (num=0/\gs'=gs/\∀(j:Nat) f,j<i->gs[j]?=some f->f a=f b)\/∃(j:Nat) (f:Int->Int),j<i/\gs[j]?=some f/\f a≠f b/\(∀(j':Nat) f',j'<j->gs[j']?=some f'->f' a=f' b)/\num=(j:Int)+1/\gs'=gs.set j (mgf f (if o then a else b) (if o then b else a))
theorem EO.num{k:Nat}{o:Bool}{gs gs':List (Int->Int)}{r:List Tie}{ms:List Int}(h:IQ k gs r ms)(t:Tie){num:Int}(l:EO o gs gs' t.a t.b k num):uh k r ms t num/\IQ k gs' (t::r) (num::ms):=by
 obtain⟨hl,ht⟩:=h;rcases l with⟨rfl,rfl,h2⟩ | ⟨j,f,jk,h1,h3,h4,rfl,rfl⟩
 ·refine⟨.inl ⟨rfl,fun j j1 j2=>?_⟩,hl,fun i g hg=>?_⟩
  ·have hj:(j-1).toNat<gs'.length:=by omega
   have:=(ht (j-1).toNat _ (SI hj) t.a t.b).mp (h2 _ _ (by omega) (SI hj));rw[show (((j-1).toNat:Nat):Int)+1=j by omega]at this;exact this
  ·rw[mK,if_neg (by omega)];exact ht i g hg
 ·have hj:j<gs.length:=(Sw.mp h1).1;refine⟨.inr ⟨by omega,by omega,fun c=>h3 ((ht j f h1 t.a t.b).mpr c),fun i i1 i2=>?_⟩,by rw[S3];exact hl,fun i g hg=>?_⟩
  ·have hi:(i-1).toNat<gs.length:=by omega
   have:=(ht (i-1).toNat _ (SI hi) t.a t.b).mp (h4 (i-1).toNat _ (by omega) (SI hi));rw[show (((i-1).toNat:Nat):Int)+1=i by omega]at this;exact this
  ·rw[mK];by_cases q:j=i
   ·subst q;rw[SS hj]at hg;cases hg;rw[if_pos rfl];cases o
    ·exact tells_mgf (ht j f h1) t t.b t.a (.inr ⟨rfl,rfl⟩)
    ·exact tells_mgf (ht j f h1) t t.a t.b (.inl ⟨rfl,rfl⟩)
   ·rw[eg q]at hg;rw[if_neg (by omega)];exact ht i g hg
theorem Qc(n:Nat)(gs:List (Int->Int)){i:Nat}{f:Int->Int}(h:gs[i]?=some f):gIx (.lst (gs.map (lab n))) (.int (0+(i:Nat)))=some (.val (lab n f)):=by
 have hi:=(Sw.mp h).1;rw[VH];show (atI (gs.map (lab n)) i).map RV.val=_;rw[Dm.mz (lab n) gs (i:Nat) (by omega) (by omega)];have:gs[((i:Nat):Int).toNat]'(by omega)=f:=by
  have:=Sw.mp h
  simpa using this.2
 rw[this];rfl
theorem R3(k:Nat):IQ k ((SR k).map fun _=>(fun x:Int=>x)) [] []:=⟨by simp,fun j f hf=>by
 rw[SM]at hf;cases h:(SR k)[j]? with
 |none=>rw[h]at hf;cases hf
 |some x=>rw[h]at hf;cases hf;exact tells_nil⟩
theorem g_(n k:Nat)(hn:n<=10)(hk1:1<=k)(hk6:k<=6)(r:List Tie)(hr:Ends n r)(hl:r.length<=1000):∃ms:List Int,ud [.int n,bJ r,.int k]=some (.new (.lst (ms.map Dat.int)))/\cW k r ms:=by
 suffices hh:Wr (ud [.int (n:Nat),bJ r,.int (k:Nat)]) fun v=>∃ms:List Int,v=.new (.lst (ms.map Dat.int))/\cW k r ms by obtain⟨v,h1,ms,rfl,h2⟩:=hh;exact⟨ms,h1,h2⟩
 unfold ud
 (refine Dm.Wr.fn ?_ rfl rfl;and_intros)
 refine Ws.seq (Ws.E (We.F (Was.cons (We.v rfl (Was.nil (WF.val (qH k (by omega) (by omega)) ?_ rfl rfl))))));refine Ws.seq (Ws.A (We.Map (fun i:Nat=>Dat.int (0+(i:Nat))) (SR k) (fun _=>(fun x:Int=>x)) (lab n) (ρ1:=[.sh (.int (n:Nat)),.sh (bJ r),.sh (.int (k:Nat)),.un,.un,.un,.un,.un,.un]) ?_ ?_ rfl (by decide) (by rw[S6];unfold SZ;omega) fun i _=>?_) (by decide))
 rotate_left
 ·apply Wi.get;refine Wi.R1 (We.v rfl (fB.mk ⟨⟨?_,rfl⟩,by unfold BIG;omega,by unfold BIG;omega⟩));rw[Vr];rfl
 ·refine We.B (Was.cons (We.v rfl (Was.nil (WB.RW ?_ rfl (by omega)))));rw[Vr,MW];exact Wk.new ⟨rfl,rfl⟩
 refine WA.new ?_ (by trivial);refine Ws.seq (Ws.A (We.L (Was.nil (WT.mk ?_ rfl rfl (by decide)))) (by decide));refine WA.new ?_ (by trivial);refine Ws.seq (Ws.For (Wi.Rev (We.v rfl (Wk.val ⟨_,rfl,?_⟩))));rw[<- List.map_reverse];refine Ws.inv fD _ _ r.reverse _ _ _ _ _ (fun p q ρ=>∃(gs:List (Int->Int)) (ms:List Int) (c5 c6 c7 c8:Cell),ρ=[.sh (.int (n:Nat)),.sh (bJ r),.sh (.int (k:Nat)),.ow (.lst (gs.map (lab n))),.ow (.lst (ms.reverse.map Dat.int)),c5,c6,c7,c8]/\IQ k gs p.reverse ms/\cW k p.reverse ms) ⟨(SR k).map fun _=>(fun x:Int=>x),[],.un,.un,.un,.un,rfl,R3 k,trivial⟩ ?_ ?_
 ·rintro p t q ρ e ⟨gs,ms,c5,c6,c7,c8,rfl,I,A⟩;have ht:t∈r:=List.mem_reverse.mp (by rw[e];simp);obtain⟨t0,t1,t2,t3⟩:=hr t ht;have lp:ms.length<=1000:=by
   have a:=A.len;have:r.reverse.length=p.length+(q.length+1):=by rw[e];simp
   rw[T6]at a this;omega
  obtain⟨num,en,ln⟩:=EN n gs t.a t.b t0 t1 t2 t3;rw[I.1]at ln;refine Dm.ff rfl (by trivial) ?_;unfold Ey;refine Ws.seq (Ws.A (We.F (Was.cons (We.w rfl (Was.cons (We.v rfl (Was.cons (We.v rfl (Was.nil (WF.val en (WA.val ?_ (by trivial)) rfl rfl))))))))) (by decide));refine Ws.cut (fun ρ=>∃gs',ρ=[.sh (.int (n:Nat)),.sh (bJ r),.sh (.int (k:Nat)),.ow (.lst (gs'.map (lab n))),.ow (.lst (ms.reverse.map Dat.int)),.sh (.int t.m),.sh (.int t.a),.sh (.int t.b),.sh (.int num)]/\EO true gs gs' t.a t.b k num) ?_ ?_
  ·refine Ws.If (Wt.V (We.e2 (We.v rfl (We.c (Wg2.gt (Wb.mk ?_) rfl rfl)))));rcases ln with⟨rfl,low⟩ | ⟨j,f,jk,hf,ne,low,rfl⟩
   ·exact Wif.no rfl (Ws.nx ⟨gs,rfl,.inl ⟨rfl,rfl,low⟩⟩)
   ·have gi:gIx (.lst (gs.map (lab n))) (.int ((j:Int)+1-1))=some (.val (lab n f)):=by
     have:=Qc n gs hf;rw[show (j:Int)+1-1=0+(j:Nat) by omega];exact this
    refine Wif.yes (decide_eq_true (by omega)) ?_;refine Ws.Set (We.F (Was.cons (We.e2 (We.w rfl (We.e2 (We.v rfl (We.c (Wg2.sub (Wg2.ix ?_ rfl rfl gi) rfl rfl))))))));refine Was.cons (We.v rfl (Was.cons (We.v rfl (Was.nil (WF.box (B9 n hn f t.a t.b t0 t1 t2 t3) ?_ rfl rfl rfl (by trivial))))));refine Wk.new ⟨⟨_,rfl⟩,We.e2 (We.v rfl (We.c (Wg2.sub (fB.mk ⟨gs.map (lab n),j,_,rfl,?_,rfl,?_⟩) rfl rfl)))⟩
    ·have hj:j<gs.length:=(Sw.mp hf).1;rw[Sx];unfold ixN;rw[if_pos (by omega),if_pos (by omega)]
     congr 1
     omega
    ·exact⟨gs.set j (mgf f t.a t.b),by rw[<- map_set];rfl,.inr ⟨j,f,jk,hf,ne,low,rfl,rfl⟩⟩
  ·rintro ρ ⟨gs',rfl,L⟩;obtain⟨h1,h2⟩:=L.num I t;refine Ws.App (We.v rfl (Wk.val (qy ?_ rfl (by trivial) (by rw[Sx,T6];unfold SZ;omega)))) rfl;refine⟨gs',num::ms,.sh (.int t.m),.sh (.int t.a),.sh (.int t.b),.sh (.int num),by rw[Vo,Tg];rfl,?_⟩;rw[List.reverse_append];exact⟨h2,A,h1⟩
 ·rintro ρ ⟨gs,ms,c5,c6,c7,c8,rfl,I,A⟩;rw[List.reverse_reverse]at A;refine Ws.R (We.e1 (We.w rfl (Wg1.mk (v:=.new (.lst (ms.map Dat.int))) ?_ rfl ?_)))
  ·exact⟨ms,rfl,A⟩
  ·unfold qf;dsimp only;rw[<- List.map_reverse,List.reverse_reverse]
theorem Good.mem{n:Int}:∀{r:List Tie} {lo:Int},Good n lo r->∀t∈r,0<=t.a/\t.a<=t.b/\t.b<n
 |[],_,_,t,h=>by cases h
 |x::r,lo,g,t,h=>by
  rcases SH.mp h with rfl | h
  ·exact⟨g.2.1,g.2.2.1,g.2.2.2.1⟩
  ·exact Good.mem g.2.2.2.2 t h
noncomputable def keep(r:List Tie)(ms:List Int):List Tie:=((r.zip ms).filter fun p=>decide (0<p.2)).map (·.1)
theorem nG(t:Tie)(m:Int)(r:List Tie)(ms:List Int):keep (t::r) (m::ms)=if 0<m then t::keep r ms else keep r ms:=by unfold keep;rw[Vi,U0];by_cases h:0<m<;>simp[h]
noncomputable def zE(x:Tie×Int):Dat:=.tup [fD x.1,.int x.2]
theorem AL:∀(r:List Tie) (ms:List Int),jN (r.map fD) (ms.map Dat.int)=(r.zip ms).map zE
 |[],_=>by simp[jN]
 |_::_,[]=>by simp[jN]
 |t::r,m::ms=>by rw[Dk,Dk,jN,AL r ms,Vi,Dk];rfl
theorem We.R4(r:List Tie)(ms:List Int)(p:Tie×Int->Bool){it:FI}{k:Nat}{t:FT}{ρ ρ1:Env}{Q:Val->Env->Prop}(q:Q (.new (bJ (((r.zip ms).filter p).map (·.1)))) ρ1)(hit:it ρ=some (jN (r.map fD) (ms.map Dat.int),ρ1))(hk:ρ1.length=k)(hk0:k≠0)(hl:r.length<=SZ)
  (ht:∀x:Tie×Int,Wt t (ρ1++[.sh (fD x.1),.sh (.int x.2)]) fun c ρ'=>c=p x/\ρ'=ρ1++[.sh (fD x.1),.sh (.int x.2)]):We (dH it 2 (bT [k,k+1]) t (eV k)) ρ Q:=by
 have b:∀(x:Tie×Int) (c1 c2:Cell),bT [k,k+1] (zE x) (ρ1++[c1,c2])=some (ρ1++[.sh (fD x.1),.sh (.int x.2)]):=fun x c1 c2=>by show sets [k,k+1] [fD x.1,.int x.2] _=_;rw[sets,if_neg hk0,sets,if_neg (by omega),sets];rw[UG _ _ (by omega),UG _ _ (by omega)];subst hk;rw[VI,show ρ1.length+1-ρ1.length=1 by omega];rfl
 refine We.P6 zE (r.zip ms) p (fun x=>x.1) fD (fun x=>(ρ1++[Cell.sh (fD x.1),Cell.sh (.int x.2)]:Env)) (own:=2) (bd:=bT [k,k+1]) (Q:=Q) q (by rw[hit,AL]) (fun x=>b x .un .un) (fun x y=>b x (.sh (fD y.1)) (.sh (.int y.2))) (fun x=>VD) (by rw[List.length_zip];omega) (fun x _=>ht x) (fun x _ _=>?_);refine We.v (d:=fD x.1) ?_ (Wk.val ⟨rfl,rfl⟩);rw[SW (by omega),hk,VI];rfl
theorem Wg2.MX{d:Dat}{o p:Option Dat}{Q:RV->Prop}(hk:okD 8 d=true)(he:eqD d d=true)(k:Q (.val (.bl false)))(ho:o=some d)(hp:p=some d):Wg2 gNe o p Q:=
 ⟨_,_,_,ho,hp,by unfold gNe;rw[hk,he];rfl,k⟩
theorem Wg2.MY{d:Dat}{o p:Option Dat}{Q:RV->Prop}(hk:okD 8 d=true)(he:eqD d d=true)(k:Q (.val (.bl true)))(ho:o=some d)(hp:p=some d):Wg2 gEq o p Q:=
 ⟨_,_,_,ho,hp,by unfold gEq;rw[hk,he];rfl,k⟩
noncomputable def aY(n k:Nat)(r:List Tie):Dat:=.tup [.int (n:Nat),.int (k:Nat),bJ r]
theorem B_{ρ ρ1:Env}{it:FI}{k:Nat}(r:List Tie)(ms:List Int){Q:Val->Env->Prop}(q:Q (.new (bJ (keep r ms))) ρ1)(hit:it ρ=some (jN (r.map fD) (ms.map Dat.int),ρ1))(hk:ρ1.length=k)(hk0:k≠0)(hl:r.length<=SZ):We (dH it 2 (bT [k,k+1]) (tV (e2 gGt (eV (k+1)) (eC (.int 0)))) (eV k)) ρ Q:=by refine We.R4 r ms (fun p=>decide (0<p.2)) q hit hk hk0 hl fun x=>?_;refine Wt.V (We.e2 (We.v (d:=.int x.2) ?_ (We.c (Wg2.gt (Wb.mk ⟨rfl,rfl⟩) rfl rfl))));rw[SW (by omega),hk];simp
theorem MZ(n k:Nat)(hn:n<=10)(hk1:1<=k)(hk6:k<=6)(r:List Tie)(ms:List Int)(hr:Ends n r)(hl:r.length<=1000)(ha:cW k r ms):AG [.int (n:Nat),bJ r,.int (k:Nat)]=some (.val (aY n k (keep r ms))):=by
 obtain⟨ms',el,al⟩:=g_ n k hn hk1 hk6 r hr hl;rw[al.uniq ha]at el;apply Wr.eq;unfold AG
 (refine Dm.Wr.fn ?_ rfl rfl;and_intros)
 refine Ws.seq (Ws.A (We.F (Was.cons (We.v rfl (Was.cons (We.v rfl (Was.cons (We.v rfl (Was.nil (WF.box el ?_ rfl rfl rfl rfl)))))))) ) (by decide));refine WA.new ?_ (by trivial);refine Ws.R (We.T (Was.cons (We.v rfl (Was.cons (We.v rfl (Was.cons (B_ (ρ1:=[.sh (.int (n:Nat)),.sh (bJ r),.sh (.int (k:Nat)),.sh (.lst (ms.map Dat.int))]) r ms (k:=4) ?_ ?_ rfl (by decide) (Tn hl (by decide)))))))))
 ·exact Was.nil (WT.mk rfl rfl rfl (SJ rfl))
 ·rfl
theorem xr:∀(r:List Tie) (ms:List Int) (j:Int),1<=j->lay (keep r ms) (ms.filter fun m=>decide (0<m)) j=lay r ms j\/r.length≠ms.length
 |[],[],_,_=>.inl rfl
 |[],_::_,_,_=>.inr (by simp)
 |_::_,[],_,_=>.inr (by simp)
 |t::r,m::ms,j,hj=>by
  rcases xr r ms j hj with ih | ih
  ·left;rw[nG,mK];by_cases h:0<m
   ·rw[if_pos h,TH (by simpa using h),mK,ih]
   ·rw[if_neg h,TF (by simpa using h),ih,if_neg (by omega)]
  ·right
   simpa using ih
theorem xu{k:Int}:∀{r:List Tie} {ms:List Int},cW k r ms->cW k (keep r ms) (ms.filter fun m=>decide (0<m))
 |[],[],_=>trivial
 |t::r,m::ms,h=>by
  have ih:=xu h.1;rw[nG];by_cases q:0<m
  ·rw[if_pos q,TH (by simpa using q)];refine⟨ih,?_⟩;have e:∀j,1<=j->lay (keep r ms) (ms.filter fun m=>decide (0<m)) j=lay r ms j:=fun j hj=>by
    rcases xr r ms j hj with z | z
    ·exact z
    ·exact absurd h.1.len.symm z
   rcases h.2 with⟨h0,_⟩ | ⟨h1,h2,h3,h4⟩
   ·omega
   ·exact .inr ⟨h1,h2,by rw[e m h1];exact h3,fun j j1 j2=>by rw[e j j1];exact h4 j j1 j2⟩
  ·rw[if_neg q,TF (by simpa using q)];exact ih
 |[],_::_,h=>h.elim
 |_::_,[],h=>h.elim
theorem qI:∀(r:List Tie) (ms:List Int),(keep r ms).Sublist r
 |[],ms=>by unfold keep;simp
 |_::_,[]=>by unfold keep;simp
 |t::r,m::ms=>by
  rw[nG];split
  ·exact(qI r ms).cons_cons t
  ·exact(qI r ms).cons t
theorem mL(n i:Int)(h0:0<=i)(h1:i<n):fO [.int n,.int i]=some (.val (.bl true)):=by
 apply Wr.eq;unfold fO
 (refine Dm.Wr.fn ?_ rfl rfl;and_intros)
 refine Ws.R (We.F (Was.cons (We.v rfl (Was.cons (We.c (Was.cons (We.e2 (We.v rfl (We.c (Wg2.sub ?_ rfl rfl))))))))));exact Was.nil (WF.val (eZ i 0 (n-1) h0 (by omega)) rfl rfl rfl)
theorem um(m:Int)(h0:0<=m)(h1:m<=Z30):oA [.int m]=some (.val (.bl true)):=by
 apply Wr.eq;unfold oA
 (refine Dm.Wr.fn ?_ rfl rfl;and_intros)
 refine Ws.R (We.F (Was.cons (We.v rfl (Was.cons (We.c (Was.cons (We.e2 (We.c (We.c (Wg2.pow (z:=Z30) ?_ rfl rfl (by decide) (by decide)))))))))));exact Was.nil (WF.val (eZ m 0 Z30 h0 h1) rfl rfl rfl)
theorem Ca(n:Int)(t:Tie)(m0:0<=t.m)(m1:t.m<=Z30)(a0:0<=t.a)(a1:t.a<n)(b0:0<=t.b)(b1:t.b<n):mF [.int n,fD t]=some (.val (.bl true)):=by
 apply Wr.eq;unfold mF fD
 (refine Dm.Wr.fn ?_ rfl rfl;and_intros)
 repeat array_get_dec
 refine Wif.no rfl ?_
 repeat array_get_dec
 refine Wif.no rfl ?_
 repeat array_get_dec
 refine WF.val (um t.m m0 m1) ?_ rfl rfl
 repeat array_get_dec
 refine WF.val (mL n t.a a0 a1) ?_ rfl rfl
 repeat array_get_dec
 refine WF.val (mL n t.b b0 b1) ?_ rfl rfl
 repeat array_get_dec
 rfl
theorem Cb(n:Int)(t:Tie)(m0:0<=t.m)(m1:t.m<=Z30)(a0:0<=t.a)(ab:t.a<=t.b)(b1:t.b<n):qB [.int n,fD t]=some (.val (.bl true)):=by
 apply Wr.eq;unfold qB
 (refine Dm.Wr.fn ?_ rfl rfl;and_intros)
 repeat array_get_dec
 refine WF.val (Ca n t m0 m1 a0 (by omega) (by omega) b1) ?_ rfl rfl
 repeat array_get_dec
 exact congrArg (fun b=>RV.val (Dat.bl b)) (decide_eq_true ab)
noncomputable abbrev IS(D:List Tie):Prop:=D.Pairwise fun t u=>t.m<u.m
theorem IT(n:Nat):ups 1 n=(SR n).map fun i:Nat=>Dat.int (1+(i:Int)):=rfl
theorem h_(n:Int)(h1:1<=n)(h2:n<=10):qA [.int n]=some (.val (.bl true)):=by
 apply Wr.eq;unfold qA
 (refine Dm.Wr.fn ?_ rfl rfl;and_intros)
 repeat array_get_dec
 refine WF.val (eZ n 1 10 h1 h2) ?_ rfl rfl
 repeat array_get_dec
 rfl
theorem ia(n:Int)(h1:1<=n)(h2:n<=6):ja [.int n]=some (.val (.bl true)):=by
 apply Wr.eq;unfold ja
 (refine Dm.Wr.fn ?_ rfl rfl;and_intros)
 repeat array_get_dec
 refine WF.val (eZ n 1 6 h1 h2) ?_ rfl rfl
 repeat array_get_dec
 rfl
theorem Cc(D:List Tie)(h:IS D)(hl:D.length<=75):AD [.lst ((D.map (·.m)).map Dat.int)]=some (.val (.bl true)):=by
 have sz:1000<=SZ:=by decide
 apply Wr.eq;unfold AD
 (refine Dm.Wr.fn ?_ rfl rfl;and_intros)
 refine Ws.R (We.B (Was.cons ?_));have hit:iR2 (eC (.int 1)) (eB iH [eV 0]) [.sh (.lst ((D.map (·.m)).map Dat.int))]=some ((SR ((D.length:Int)-1).toNat).map (fun i:Nat=>Dat.int (1+(i:Int))),[.sh (.lst ((D.map (·.m)).map Dat.int))]):=by
  refine Wi.get ?_
  repeat array_get_dec
  refine⟨⟨?_,rfl⟩,?_⟩
  ·rw[IT,Sx]
  ·rw[Sx];unfold BIG;omega
 refine We.Map (fun i:Nat=>Dat.int (1+(i:Int))) (SR ((D.length:Int)-1).toNat) (fun _=>true) Dat.bl ?_ hit rfl (by decide) (by simp;omega) (fun i hi=>?_)
 ·refine Was.nil (WB.all (fun b=>b) (xs:=(SR ((D.length:Int)-1).toNat).map fun _=>true) ?_ rfl);exact WR.val (congrArg (fun b=>RV.val (Dat.bl b)) (by simp))
 ·have hi':=TX.mp hi
  repeat array_get_dec
  refine Wg2.ixL (enc:=Dat.int) (xs:=D.map (·.m)) (i:=1+(i:Int)-1) (by omega) (by rw[Sx];omega) ?_ rfl rfl
  repeat array_get_dec
  refine Wg2.ixL (enc:=Dat.int) (xs:=D.map (·.m)) (i:=1+(i:Int)) (by omega) (by rw[Sx];omega) ?_ rfl rfl
  repeat array_get_dec
  have lt:=List.pairwise_iff_getElem.mp h (1+(i:Int)-1).toNat (1+(i:Int)).toNat (by omega) (by omega) (by omega);refine⟨congrArg Dat.bl (decide_eq_true ?_),rfl⟩;rw[List.getElem_map,List.getElem_map];exact lt
structure Rcd(n:Nat)(r:List Tie):Prop where
 ok:∀t∈r,0<=t.m/\t.m<=Z30/\0<=t.a/\t.a<=t.b/\t.b<n
 up:IS r
 len:r.length<=60
theorem Rcd.sub{n:Nat}{r q:List Tie}(h:Rcd n r)(s:q.Sublist r):Rcd n q:=⟨fun t ht=>h.ok t (s.subset ht),h.up.sublist s,Tn s.length_le h.len⟩
theorem Rcd.ends{n:Nat}{r:List Tie}(h:Rcd n r):Ends n r:=fun t ht=>by obtain⟨h1,h2,h3,h4,h5⟩:=h.ok t ht;exact⟨h3,by omega,by omega,h5⟩
theorem Rcd.good{n:Nat}{r:List Tie}(h:Rcd n r):Good n 0 r:=by
 have go:∀(r:List Tie) (lo:Int),(∀t∈r,0<=t.a/\t.a<=t.b/\t.b<(n:Nat))->(∀t∈r,lo<=t.m)->IS r->Good n lo r:=fun r=>by
  induction r with
  |nil=>intro lo _ _ _;trivial
  |cons t r ih=>intro lo h1 h2 h3;obtain⟨p1,p2⟩:=Uc.mp h3;obtain⟨q1,q2,q3⟩:=h1 t Sy;exact⟨h2 t Sy,q1,q2,q3,ih (t.m+1) (fun u hu=>h1 u (SA _ hu)) (fun u hu=>by have:=p1 u hu;omega) p2⟩
 exact go r 0 (fun t ht=>(h.ok t ht).2.2) (fun t ht=>(h.ok t ht).1) h.up
theorem mQ(n:Nat)(n1:1<=n)(n10:n<=10)(r:List Tie)(h:Rcd n r):jb [.int (n:Nat),bJ r]=some (.val (.bl true)):=by
 have sz:1000<=SZ:=by decide
 have hl:=h.len;apply Wr.eq;unfold jb
 (refine Dm.Wr.fn ?_ rfl rfl;and_intros)
 repeat array_get_dec
 refine WF.val (h_ n (by omega) (by omega)) ?_ rfl rfl
 repeat array_get_dec
 refine Wif.no rfl ?_
 repeat array_get_dec
 refine Wif.no rfl ?_
 repeat array_get_dec
 refine Wif.no (decide_eq_false (by rw[Sx];omega)) ?_
 repeat array_get_dec
 refine We.BX fD r (fun _=>true) Dat.bl ?_ rfl rfl rfl (by decide) (by omega) (fun t ht=>?_)
 rotate_left
 ·obtain⟨h1,h2,h3,h4,h5⟩:=h.ok t ht
  repeat array_get_dec
  refine WF.val (Cb n t h1 h2 h3 h4 h5) ?_ rfl rfl
  repeat array_get_dec
  exact⟨rfl,rfl⟩
 repeat array_get_dec
 refine WB.all (fun b=>b) (xs:=r.map fun _=>true) ?_ rfl
 repeat array_get_dec
 refine Wif.no (by simp) ?_
 repeat array_get_dec
 refine We.BX fD r (·.m) Dat.int ?_ rfl rfl rfl (by decide) (by omega) (fun t ht=>?_)
 rotate_left
 ·repeat array_get_dec
  exact⟨rfl,rfl⟩
 repeat array_get_dec
 refine WF.val (Cc r h.up (by omega)) ?_ rfl rfl
 repeat array_get_dec
 rfl
structure Net(n k:Nat)(N:List Tie):Prop where
 rc:Rcd n N
 num:∃ms,cW k N ms/\(0:Int)∉ms
theorem uo(n k:Nat)(n1:1<=n)(n10:n<=10)(k1:1<=k)(k6:k<=6)(N:List Tie)(h:Net n k N):cM [aY n k N]=some (.val (.bl true)):=by
 have hl:=h.rc.len;obtain⟨ms,el,al⟩:=g_ n k n10 k1 k6 N h.rc.ends (by omega);obtain⟨ms',al',h0⟩:=h.num;rw[al'.uniq al]at h0;apply Wr.eq;unfold cM aY
 (refine Dm.Wr.fn ?_ rfl rfl;and_intros)
 repeat array_get_dec
 refine Wif.no rfl ?_
 repeat array_get_dec
 refine Wif.no rfl ?_
 repeat array_get_dec
 refine WF.val (ia k (by omega) (by omega)) ?_ rfl rfl
 repeat array_get_dec
 refine Wif.no rfl ?_
 repeat array_get_dec
 refine WF.val (mQ n n1 n10 N h.rc) ?_ rfl rfl
 repeat array_get_dec
 refine Wif.no rfl ?_
 repeat array_get_dec
 refine WF.box el ?_ rfl rfl rfl (by trivial)
 repeat array_get_dec
 refine Wg2.P0 (xs:=ms) ?_ rfl rfl
 repeat array_get_dec
 exact congrArg (fun b=>RV.val (Dat.bl b)) (by simp[h0])
theorem Rcd.of{n:Nat}{r:List Tie}(g:Good n 0 r)(hl:r.length<=60)(hm:∀t∈r,t.m<=Z30):Rcd n r:=⟨fun t ht=>by
  obtain⟨q1,q2,q3⟩:=Good.mem g t ht;exact⟨Good.lo g t ht,hm t ht,q1,q2,q3⟩,by
  have up:∀(r:List Tie) (lo:Int),Good n lo r->IS r:=fun r=>by
   induction r with
   |nil=>intro _ _;exact List.Pairwise.nil
   |cons t r ih=>intro lo g;exact Uc.mpr ⟨fun u hu=>by have:=Good.lo g.2.2.2.2 u hu;omega,ih _ g.2.2.2.2⟩
  exact up r 0 g,hl⟩
noncomputable def ER(r:List Tie)(t:Int):List Tie:=r.filter fun x=>decide (t<=x.m)
theorem ES(r:List Tie)(hl:r.length<=1000)(t:Int):ue [bJ r,.int t]=some (.new (bJ (ER r t))):=by
 apply Wr.eq;unfold ue
 (refine Dm.Wr.fn ?_ rfl rfl;and_intros)
 refine Ws.R ?_;refine We.PZ fD r (fun x=>decide (t<=x.m)) id fD (d:=bJ r) ?_ rfl rfl rfl (by decide) (by unfold SZ;omega) (fun u _=>?_) fun u _ _=>?_
 ·rw[Vc];rfl
 ·exact Wt.V (We.e2 (We.e2 (We.v rfl (We.c (Wg2.ix (We.v rfl (Wg2.ge (Wb.mk ⟨rfl,rfl⟩) rfl rfl)) rfl rfl rfl)))))
 ·exact We.v rfl (Wk.val ⟨rfl,rfl⟩)
theorem Good.since{n:Int}{r:List Tie}{lo t:Int}(h:Good n lo r):Good n lo (ER r t):=h.filter _
theorem IU(r:List Tie)(t:Int):(ER r t).length<=r.length:=List.length_filter_le _ _
theorem oN(n k:Nat)(n1:1<=n)(n10:n<=10)(k1:1<=k)(k6:k<=6)(N:List Tie)(h:Net n k N):oB [aY n k N]=some (.val .non):=by
 apply Wr.eq;unfold oB
 (refine Dm.Wr.fn ?_ rfl rfl;and_intros)
 exact Ws.If (Wt.Not (Wt.V (We.F (Was.cons (We.v rfl (Was.nil (WF.val (uo n k n1 n10 k1 k6 N h) (Wb.mk (Wif.f (Ws.nx rfl))) rfl rfl)))))))
theorem cy(i lo hi:Int)(h:¬(lo<=i/\i<=hi)):f_ [.int i,.int lo,.int hi]=some (.val (.bl false)):=by
 apply Wr.eq;unfold f_
 (refine Dm.Wr.fn ?_ rfl rfl;and_intros)
 refine Ws.R (We.And (We.F (Was.cons (We.v rfl (Was.nil (WF.val (xo i) (Wb.mk (Wif.t ?_)) rfl rfl))))));have e1:gLe (.int lo) (.int i)=some (.val (.bl (decide (lo<=i)))):=rfl;have e2:gLe (.int i) (.int hi)=some (.val (.bl (decide (i<=hi)))):=rfl;have e:j5 gLe gLe (eV 1) (eV 0) (eV 2) [.sh (.int i),.sh (.int lo),.sh (.int hi)]=some (.val (.bl false),[.sh (.int i),.sh (.int lo),.sh (.int hi)]):=by
  unfold j5;simp only[eV,List.getElem?_cons_zero,TZ,pk,e1,e2,RV.cj];by_cases q:lo<=i
  ·rw[decide_eq_true q,decide_eq_false fun z=>h ⟨q,z⟩]
  ·rw[decide_eq_false q]
 exact⟨_,_,e,rfl⟩
theorem mR(n i:Int)(h:¬(0<=i/\i<n)):fO [.int n,.int i]=some (.val (.bl false)):=by
 apply Wr.eq;unfold fO
 (refine Dm.Wr.fn ?_ rfl rfl;and_intros)
 refine Ws.R (We.F (Was.cons (We.v rfl (Was.cons (We.c (Was.cons (We.e2 (We.v rfl (We.c (Wg2.sub ?_ rfl rfl))))))))));exact Was.nil (WF.val (cy i 0 (n-1) (by omega)) rfl rfl rfl)
noncomputable def M0(d:Dat):Prop:=(∀n:Nat,1<=n->n<=10->fO [.int n,d]=some (.val (.bl false)))/\∀k:Nat,k<=6->f_ [d,.int 1,.int k]=some (.val (.bl false))
theorem ET(x:Int):∃d x',uf [bf x]=some (.val d,bf x')/\M0 d:=by
 suffices hh:WrM (uf [bf x]) fun v p=>∃d x',v=.val d/\p=bf x'/\M0 d by obtain⟨v,p,h1,d,x',rfl,rfl,h2⟩:=hh;exact⟨d,x',h1,h2⟩
 unfold uf;refine WrM.fn ?_ rfl rfl;and_intros;refine Ws.cut (fun ρ=>∃(y z x1:Int),0<=y/\0<=z/\ρ=[.ow (bf x1),.ow (.lst [.non,.bl true,.bl false,.str [48],.lst [.int 0],.tup [.int 0],.int (0-1-y),.int (10+z),.str []])]) ?_ ?_
 ·refine Ws.A (We.L (Was.cons (We.c (Was.cons (We.c (Was.cons (We.c (Was.cons (We.c ?_)))))))) ) (by decide);refine Was.cons (We.L (Was.cons (We.c (Was.nil (WT.mk ?_ rfl rfl (by decide))))));refine Was.cons (We.T (Was.cons (We.c (Was.nil (WT.mk ?_ rfl rfl (by decide))))));refine Was.cons (We.e2 (We.e2 (We.c (We.c (Wg2.sub ?_ rfl rfl)))));refine We.take (We.e2 (We.c (We.c (Wg2.pow (z:=1000000000000) ?_ rfl rfl (by decide) (by decide))))) rfl;refine fB.mk (g9 ?_ rfl rfl (by decide) (by decide));refine Wg2.sub ?_ rfl rfl;refine Was.cons (We.e2 (We.c ?_));refine We.take (We.e2 (We.c (We.c (Wg2.pow (z:=1000000000000) ?_ rfl rfl (by decide) (by decide))))) rfl;refine fB.mk (g9 ?_ rfl rfl (by decide) (by decide));refine Wg2.add ?_ rfl rfl;refine Was.cons (We.c (Was.nil (WT.mk ?_ rfl rfl (by exact SJ rfl))));exact WA.new ⟨_,_,_,(di _ 1000000000000 (by decide)).1,(di _ 1000000000000 (by decide)).1,rfl⟩ (by trivial)
 rintro ρ ⟨y,z,x1,hy,hz,rfl⟩;obtain⟨d,hd,nd⟩:∃d,gIx (.lst [.non,.bl true,.bl false,.str [48],.lst [.int 0],.tup [.int 0],.int (0-1-y),.int (10+z),.str []]) (.int (x1 % 9))=some (.val d)/\M0 d:=by
  have hm:=di x1 9 (by decide);have:x1 % 9=0\/x1 % 9=1\/x1 % 9=2\/x1 % 9=3\/x1 % 9=4\/x1 % 9=5\/x1 % 9=6\/x1 % 9=7\/x1 % 9=8:=by omega
  rcases this with e | e | e | e | e | e | e | e | e<;>rw[e]
  ·exact⟨_,rfl,fun n _ _=>rfl,fun k _=>rfl⟩
  ·exact⟨_,rfl,fun n _ _=>rfl,fun k _=>rfl⟩
  ·exact⟨_,rfl,fun n _ _=>rfl,fun k _=>rfl⟩
  ·exact⟨_,rfl,fun n _ _=>rfl,fun k _=>rfl⟩
  ·exact⟨_,rfl,fun n _ _=>rfl,fun k _=>rfl⟩
  ·exact⟨_,rfl,fun n _ _=>rfl,fun k _=>rfl⟩
  ·exact⟨_,rfl,fun n _ _=>mR n _ (by omega),fun k _=>cy _ _ _ (by omega)⟩
  ·exact⟨_,rfl,fun n _ _=>mR n _ (by omega),fun k _=>cy _ _ _ (by omega)⟩
  ·exact⟨_,rfl,fun n _ _=>rfl,fun k _=>rfl⟩
 refine Ws.R (We.e2 (We.w rfl (We.take (We.B (Was.cons (We.w rfl (Was.nil (WB.len ?_ rfl))))) rfl)));refine fB.mk (g9 (m:=9) ?_ rfl rfl (by decide) (by decide));refine Wg2.ix ?_ rfl rfl hd;refine WR.val ?_;exact⟨_,rfl,d,_,rfl,rfl,nd⟩
theorem qJ(n:Int)(d1 d2:Dat)(h:fO [.int n,d1]=some (.val (.bl false))):eT [.int n,d1,d2]=some (.val (.bl false)):=by
 apply Wr.eq;unfold eT
 (refine Dm.Wr.fn ?_ rfl rfl;and_intros)
 exact Ws.R (We.And (We.F (Was.cons (We.v rfl (Was.cons (We.v rfl (Was.nil (WF.val h (Wb.mk (Wif.f rfl)) rfl rfl))))))))
theorem xw(n:Int)(d1 d2:Dat)(h1:fO [.int n,d1]=some (.val (.bl true)))(h:fO [.int n,d2]=some (.val (.bl false))):eT [.int n,d1,d2]=some (.val (.bl false)):=by
 apply Wr.eq;unfold eT
 (refine Dm.Wr.fn ?_ rfl rfl;and_intros)
 refine Ws.R (We.And (We.F (Was.cons (We.v rfl (Was.cons (We.v rfl (Was.nil (WF.val h1 (Wb.mk (Wif.t ?_)) rfl rfl))))))));exact We.And (We.F (Was.cons (We.v rfl (Was.cons (We.v rfl (Was.nil (WF.val h (Wb.mk (Wif.f rfl)) rfl rfl)))))))
theorem EU(n p:Int)(h1:fO [.int n,.int p]=some (.val (.bl true))):eT [.int n,.int p,.int p]=some (.val (.bl false)):=by
 apply Wr.eq;unfold eT
 (refine Dm.Wr.fn ?_ rfl rfl;and_intros)
 refine Ws.R (We.And (We.F (Was.cons (We.v rfl (Was.cons (We.v rfl (Was.nil (WF.val h1 (Wb.mk (Wif.t ?_)) rfl rfl))))))));refine We.And (We.F (Was.cons (We.v rfl (Was.cons (We.v rfl (Was.nil (WF.val h1 (Wb.mk (Wif.t ?_)) rfl rfl)))))));refine We.e2 (We.v rfl (We.v rfl (Wg2.ne ?_ rfl rfl)));rw[decide_eq_true rfl];rfl
theorem EV(x:Int)(n:Nat)(n1:1<=n)(n10:n<=10):∃d1 d2 x',wZ [bf x,.int n]=some (.val (.tup [d1,d2]),bf x')/\eT [.int n,d1,d2]=some (.val (.bl false)):=by
 suffices hh:WrM (wZ [bf x,.int n]) fun v p=>∃d1 d2 x',v=.val (.tup [d1,d2])/\p=bf x'/\eT [.int n,d1,d2]=some (.val (.bl false)) by obtain⟨v,p,h1,d1,d2,x',rfl,rfl,h2⟩:=hh;exact⟨d1,d2,x',h1,h2⟩
 obtain⟨d,x1,e1,nd⟩:=ET x;unfold wZ;refine WrM.fn ?_ rfl rfl;and_intros;refine Ws.seq (Ws.A (We.Fm (Was.nil (WFm.any e1 ?_ rfl rfl (by trivial))) rfl) (by decide));refine WA.val ?_ (by trivial);refine Ws.seq (Ws.A ?_ (by decide));refine We.drw (m:=n) rfl (by omega) (by unfold jM;omega) rfl fun q x2 q0 q1 ρ3 e=>?_;subst e;refine WA.val ?_ (by trivial);have pq:=mL n q q0 q1;have pn:=mR n n (by omega);have po:=nd.1 n n1 n10;obtain⟨d1,d2,hd,np⟩:∃d1 d2,gIx (.lst [.tup [d,.int q],.tup [.int q,d],.tup [.int q,.int q],.tup [.int n,.int q],.tup [.int q,.int n],.tup [d,d]]) (.int (x2 % 6))=some (.val (.tup [d1,d2]))/\eT [.int n,d1,d2]=some (.val (.bl false)):=by
  have hm:=di x2 6 (by decide);have:x2 % 6=0\/x2 % 6=1\/x2 % 6=2\/x2 % 6=3\/x2 % 6=4\/x2 % 6=5:=by omega
  rcases this with e | e | e | e | e | e<;>rw[e]
  ·exact⟨_,_,rfl,qJ n _ _ po⟩
  ·exact⟨_,_,rfl,xw n _ _ pq po⟩
  ·exact⟨_,_,rfl,EU n _ pq⟩
  ·exact⟨_,_,rfl,qJ n _ _ pn⟩
  ·exact⟨_,_,rfl,xw n _ _ pq pn⟩
  ·exact⟨_,_,rfl,qJ n _ _ po⟩
 have two:∀{a b:Nat} {da db:Dat} {ρ:Env} {Q:Val->Env->Prop},ρ[a]?=some (.sh da)->ρ[b]?=some (.sh db)->Q (.val (.tup [da,db])) ρ->We (b7 [eV a,eV b]) ρ Q:=fun h1 h2 q=>We.T (Was.cons (We.v h1 (Was.cons (We.v h2 (Was.nil (WT.mk q rfl rfl (by exact SJ rfl)))))));refine Ws.R (We.e2 (We.L (Was.cons (two rfl rfl (Was.cons (two rfl rfl (Was.cons (two rfl rfl (Was.cons (two rfl rfl (Was.cons (two rfl rfl (Was.cons (two rfl rfl (Was.nil (WT.mk ?_ rfl rfl (by exact SJ rfl)))))))))))))))));refine We.take (We.c (fB.mk (g9 (m:=6) ?_ rfl rfl (by decide) (by decide)))) rfl;refine Wg2.ix ?_ rfl rfl hd;refine WR.val ?_;exact⟨_,rfl,d1,d2,_,rfl,rfl,np⟩
theorem mS(d:Dat)(h:sN isT d=some (.val (.bl false))):cM [d]=some (.val (.bl false)):=by
 apply Wr.eq;unfold cM
 (refine Dm.Wr.fn ?_ rfl rfl;and_intros)
 refine Ws.seq (Ws.If (Wt.Or (Wt.Not (Wt.V (We.e1 (We.v rfl (Wg1.mk (v:=.val (.bl false)) (Wb.mk (Wif.t (Wif.t ?_))) rfl h)))))));exact Ws.R (We.c rfl)
theorem vm(ds:List Dat)(h:ds.length≠3)(hl:ds.length<100):cM [.tup ds]=some (.val (.bl false)):=by
 apply Wr.eq;unfold cM
 (refine Dm.Wr.fn ?_ rfl rfl;and_intros)
 refine Ws.seq (Ws.If (Wt.Or (Wt.Not (Wt.V (We.e1 (We.v rfl (Wg1.mk (v:=.val (.bl true)) (Wb.mk (Wif.f ?_)) rfl rfl)))))));refine Wt.V (We.e2 (We.B (Was.cons (We.v rfl (Was.nil (WB.zg ?_ rfl))))));refine We.c (Wg2.ne (Wb.mk ?_) rfl rfl);rw[decide_eq_false (by omega)];exact Wif.t (Ws.R (We.c rfl))
theorem vo(a b c:Dat)(h:ja [b]=some (.val (.bl false))):cM [.tup [a,b,c]]=some (.val (.bl false)):=by
 apply Wr.eq;unfold cM
 (refine Dm.Wr.fn ?_ rfl rfl;and_intros)
 refine Ws.seq (Ws.If (Wt.Or (Wt.Not (Wt.V (We.e1 (We.v rfl (Wg1.mk (v:=.val (.bl true)) (Wb.mk (Wif.f ?_)) rfl rfl)))))));refine Wt.V (We.e2 (We.B (Was.cons (We.v rfl (Was.nil (WB.zg ?_ rfl))))));refine We.c (Wg2.ne (Wb.mk ?_) rfl rfl);refine Wif.no rfl (Ws.nx ?_);refine Ws.seq (Ws.If (Wt.Or (Wt.Not (Wt.V (We.F (Was.cons (We.e2 (We.v rfl (We.c (Wg2.ix (v:=b) ?_ rfl rfl rfl))))))))));refine Was.nil (WF.val h (Wb.mk (Wif.t (Wif.t ?_))) rfl rfl);exact Ws.R (We.c rfl)
theorem gq(a b c:Dat)(hb:ja [b]=some (.val (.bl true)))(h:jb [a,c]=some (.val (.bl false))):cM [.tup [a,b,c]]=some (.val (.bl false)):=by
 apply Wr.eq;unfold cM
 (refine Dm.Wr.fn ?_ rfl rfl;and_intros)
 refine Ws.seq (Ws.If (Wt.Or (Wt.Not (Wt.V (We.e1 (We.v rfl (Wg1.mk (v:=.val (.bl true)) (Wb.mk (Wif.f ?_)) rfl rfl)))))));refine Wt.V (We.e2 (We.B (Was.cons (We.v rfl (Was.nil (WB.zg ?_ rfl))))));refine We.c (Wg2.ne (Wb.mk ?_) rfl rfl);refine Wif.no rfl (Ws.nx ?_);refine Ws.seq (Ws.If (Wt.Or (Wt.Not (Wt.V (We.F (Was.cons (We.e2 (We.v rfl (We.c (Wg2.ix (v:=b) ?_ rfl rfl rfl))))))))));refine Was.nil (WF.val hb (Wb.mk (Wif.f ?_)) rfl rfl);refine Wt.Not (Wt.V (We.F (Was.cons (We.e2 (We.v rfl (We.c (Wg2.ix (v:=a) ?_ rfl rfl rfl)))))));refine Was.cons (We.e2 (We.v rfl (We.c (Wg2.ix (v:=c) ?_ rfl rfl rfl))));refine Was.nil (WF.val h (Wb.mk (Wif.t ?_)) rfl rfl);exact Ws.R (We.c rfl)
theorem kj(a c:Dat)(h:qA [a]=some (.val (.bl false))):jb [a,c]=some (.val (.bl false)):=by
 apply Wr.eq;unfold jb
 (refine Dm.Wr.fn ?_ rfl rfl;and_intros)
 refine Ws.seq (Ws.If (Wt.Or (Wt.Not (Wt.V (We.F (Was.cons (We.v rfl (Was.nil (WF.val h (Wb.mk (Wif.t (Wif.t ?_))) rfl rfl)))))))));exact Ws.R (We.c rfl)
theorem xx(n:Nat)(n1:1<=n)(n10:n<=10)(c:Dat)(h:sN isL c=some (.val (.bl false))):jb [.int n,c]=some (.val (.bl false)):=by
 apply Wr.eq;unfold jb
 (refine Dm.Wr.fn ?_ rfl rfl;and_intros)
 refine Ws.seq (Ws.If (Wt.Or (Wt.Not (Wt.V (We.F (Was.cons (We.v rfl (Was.nil (WF.val (h_ n (by omega) (by omega)) (Wb.mk (Wif.f ?_)) rfl rfl)))))))));refine Wt.Or (Wt.Not (Wt.V (We.e1 (We.v rfl (Wg1.mk (v:=.val (.bl false)) (Wb.mk (Wif.t (Wif.t ?_))) rfl h)))));exact Ws.R (We.c rfl)
theorem vp(n:Nat)(n1:1<=n)(n10:n<=10)(t:Dat)(h:qB [.int n,t]=some (.val (.bl false))):jb [.int n,.lst [t]]=some (.val (.bl false)):=by
 apply Wr.eq;unfold jb
 (refine Dm.Wr.fn ?_ rfl rfl;and_intros)
 refine Ws.seq (Ws.If (Wt.Or (Wt.Not (Wt.V (We.F (Was.cons (We.v rfl (Was.nil (WF.val (h_ n (by omega) (by omega)) (Wb.mk (Wif.f ?_)) rfl rfl)))))))));refine Wt.Or (Wt.Not (Wt.V (We.e1 (We.v rfl (Wg1.mk (v:=.val (.bl true)) (Wb.mk (Wif.f ?_)) rfl rfl)))));refine Wt.V (We.e2 (We.B (Was.cons (We.v rfl (Was.nil (WB.len ?_ rfl))))));refine We.c (Wg2.gt (Wb.mk (Wif.no rfl ?_)) rfl rfl);refine Ws.nx (Ws.seq (Ws.If (Wt.Not (Wt.V (We.B (Was.cons ?_))))));refine We.BX id [t] (fun _=>false) Dat.bl ?_ rfl rfl rfl (by decide) (by exact SJ rfl) fun u hu=>?_
 ·refine Was.nil (WB.all (fun _=>false) (xs:=[t]) ?_ rfl);exact Wb.mk (Wif.t (Ws.R (We.c rfl)))
 ·rw[SV.mp hu];exact We.F (Was.cons (We.v rfl (Was.cons (We.v rfl (Was.nil (WF.val h (Wk.val ⟨rfl,rfl⟩) rfl rfl))))))
theorem AM(n k:Nat)(n1:1<=n)(n10:n<=10)(k1:1<=k)(k6:k<=6)(r:List Tie)(hr:Rcd n r)(h:∀ms,cW k r ms->(0:Int)∈ms):cM [aY n k r]=some (.val (.bl false)):=by
 have hl:=hr.len;obtain⟨ms,el,al⟩:=g_ n k n10 k1 k6 r hr.ends (by omega);apply Wr.eq;unfold cM aY
 (refine Dm.Wr.fn ?_ rfl rfl;and_intros)
 refine Ws.seq (Ws.If (Wt.Or (Wt.Not (Wt.V (We.e1 (We.v rfl (Wg1.mk (v:=.val (.bl true)) (Wb.mk (Wif.f ?_)) rfl rfl)))))));refine Wt.V (We.e2 (We.B (Was.cons (We.v rfl (Was.nil (WB.zg ?_ rfl))))));refine We.c (Wg2.ne (Wb.mk ?_) rfl rfl);refine Wif.no rfl (Ws.nx ?_);refine Ws.seq (Ws.If (Wt.Or (Wt.Not (Wt.V (We.F (Was.cons (We.e2 (We.v rfl (We.c (Wg2.ix ?_ rfl rfl rfl))))))))));refine Was.nil (WF.val (ia k (by omega) (by omega)) (Wb.mk (Wif.f ?_)) rfl rfl);refine Wt.Not (Wt.V (We.F (Was.cons (We.e2 (We.v rfl (We.c (Wg2.ix ?_ rfl rfl rfl)))))));refine Was.cons (We.e2 (We.v rfl (We.c (Wg2.ix ?_ rfl rfl rfl))));refine Was.nil (WF.val (mQ n n1 n10 r hr) (Wb.mk (Wif.f ?_)) rfl rfl);refine Ws.nx (Ws.R (We.e2 (We.c (We.F (Was.cons (We.e2 (We.v rfl (We.c (Wg2.ix ?_ rfl rfl rfl)))))))));refine Was.cons (We.e2 (We.v rfl (We.c (Wg2.ix ?_ rfl rfl rfl))));refine Was.cons (We.e2 (We.v rfl (We.c (Wg2.ix ?_ rfl rfl rfl))));refine Was.nil (WF.box el ?_ rfl rfl rfl rfl);refine Wg2.P0 (xs:=ms) ?_ rfl rfl;rw[decide_eq_true (h ms al)];rfl
theorem uq{k:Nat}(k1:1<=k){t:Tie}(h:t.a=t.b){r:List Tie}{ms:List Int}(al:cW k (t::r) ms):(0:Int)∈ms:=by
 cases ms with
 |nil=>cases al
 |cons m ms=>
  have h1:uh k r ms t m:=al.2;rcases h1 with⟨e,_⟩ | ⟨_,_,nc,_⟩
  ·rw[e];exact Sy
  ·rw[h]at nc;exact absurd (Con.refl _) nc
theorem nI(d:Dat)(h:f_ [d,.int 1,.int 6]=some (.val (.bl false))):ja [d]=some (.val (.bl false)):=by
 apply Wr.eq;unfold ja
 (refine Dm.Wr.fn ?_ rfl rfl;and_intros)
 exact Ws.R (We.F (Was.cons (We.v rfl (Was.cons (We.c (Was.cons (We.c (Was.nil (WF.val h rfl rfl rfl)))))))))
theorem nJ(d:Dat)(h:f_ [d,.int 1,.int 10]=some (.val (.bl false))):qA [d]=some (.val (.bl false)):=by
 apply Wr.eq;unfold qA
 (refine Dm.Wr.fn ?_ rfl rfl;and_intros)
 exact Ws.R (We.F (Was.cons (We.v rfl (Was.cons (We.c (Was.cons (We.c (Was.nil (WF.val h rfl rfl rfl)))))))))
theorem mT(d:Dat)(lo hi:Int)(h:Eu [d]=some (.val (.bl false))):f_ [d,.int lo,.int hi]=some (.val (.bl false)):=by
 apply Wr.eq;unfold f_
 (refine Dm.Wr.fn ?_ rfl rfl;and_intros)
 exact Ws.R (We.And (We.F (Was.cons (We.v rfl (Was.nil (WF.val h (Wb.mk (Wif.f rfl)) rfl rfl))))))
noncomputable def Cd(n k:Nat)(K:List Tie):List Dat:=
 [.non,.lst [],.tup [],.lst [.int n,.int k,bJ K],.tup [.int n,.int k],.tup [.int n,.int k,bJ K,.int 0],.tup [.bl true,.int k,.lst []],.tup [.int n,.bl true,.lst []],.tup [.int 0,.int k,.lst []],.tup [.int n,.int 0,.lst []]] ++
 [.tup [.int 11,.int k,.lst []],.tup [.int n,.int 7,.lst []],.tup [.int n,.int k,.non],.tup [.int n,.int k,.tup (K.map fD++[.int 0])],.tup [.int n,.int k,.lst [.tup [.int 0,.int 0,.int 0]]],.str [110,101,116]] ++
 [.tup [.int n,.int k,.lst [.tup [.int 3,.int 0,.int n]]],.tup [.int n,.int k,.lst [.tup [.int (0-1),.int 0,.int 0]]],.tup [.int n,.int k,.lst [.lst [.int 1,.int 0,.int 0]]],.tup [.int n,.int 1,.lst [.tup [.int 1,.int 0,.int 0],.tup [.int 2,.int 0,.int 0]]]]
theorem R5(n:Nat)(n1:1<=n):Rcd n [⟨0,0,0⟩]:=⟨fun t ht=>by rw[SV.mp ht];exact⟨by decide,by decide,by decide,by decide,by show (0:Int)<n;omega⟩,by simp,by decide⟩
theorem R6(n:Nat)(n1:1<=n):Rcd n [⟨1,0,0⟩,⟨2,0,0⟩]:=⟨fun t ht=>by
  rcases SH.mp ht with rfl | ht
  ·exact⟨by decide,by decide,by decide,by decide,by show (0:Int)<n;omega⟩
  ·rw[SV.mp ht];exact⟨by decide,by decide,by decide,by decide,by show (0:Int)<n;omega⟩,by simp,by decide⟩
theorem ko(n:Int)(t:Dat)(h:mF [.int n,t]=some (.val (.bl false))):qB [.int n,t]=some (.val (.bl false)):=by
 apply Wr.eq;unfold qB
 (refine Dm.Wr.fn ?_ rfl rfl;and_intros)
 exact Ws.R (We.And (We.F (Was.cons (We.v rfl (Was.cons (We.v rfl (Was.nil (WF.val h (Wb.mk (Wif.f rfl)) rfl rfl))))))))
theorem EW(n m:Int)(a b:Dat)(h:oA [.int m]=some (.val (.bl false))):mF [.int n,.tup [.int m,a,b]]=some (.val (.bl false)):=by
 apply Wr.eq;unfold mF
 (refine Dm.Wr.fn ?_ rfl rfl;and_intros)
 refine Ws.seq (Ws.If (Wt.Or (Wt.Not (Wt.V (We.e1 (We.v rfl (Wg1.mk (v:=.val (.bl true)) (Wb.mk (Wif.f ?_)) rfl rfl)))))));refine Wt.V (We.e2 (We.B (Was.cons (We.v rfl (Was.nil (WB.zg ?_ rfl))))));refine We.c (Wg2.ne (Wb.mk (Wif.no rfl ?_)) rfl rfl);refine Ws.nx (Ws.R (We.And (We.F (Was.cons (We.e2 (We.v rfl (We.c (Wg2.ix ?_ rfl rfl rfl))))))));exact Was.nil (WF.val h (Wb.mk (Wif.f rfl)) rfl rfl)
theorem EX(n m:Int)(a b:Int)(hm:oA [.int m]=some (.val (.bl true)))(ha:fO [.int n,.int a]=some (.val (.bl true)))(h:fO [.int n,.int b]=some (.val (.bl false))):mF [.int n,.tup [.int m,.int a,.int b]]=some (.val (.bl false)):=by
 apply Wr.eq;unfold mF
 (refine Dm.Wr.fn ?_ rfl rfl;and_intros)
 refine Ws.seq (Ws.If (Wt.Or (Wt.Not (Wt.V (We.e1 (We.v rfl (Wg1.mk (v:=.val (.bl true)) (Wb.mk (Wif.f ?_)) rfl rfl)))))));refine Wt.V (We.e2 (We.B (Was.cons (We.v rfl (Was.nil (WB.zg ?_ rfl))))));refine We.c (Wg2.ne (Wb.mk (Wif.no rfl ?_)) rfl rfl);refine Ws.nx (Ws.R (We.And (We.F (Was.cons (We.e2 (We.v rfl (We.c (Wg2.ix ?_ rfl rfl rfl))))))));refine Was.nil (WF.val hm (Wb.mk (Wif.t ?_)) rfl rfl);refine We.And (We.F (Was.cons (We.v rfl (Was.cons (We.e2 (We.v rfl (We.c (Wg2.ix ?_ rfl rfl rfl))))))));refine Was.nil (WF.val ha (Wb.mk (Wif.t ?_)) rfl rfl);refine We.F (Was.cons (We.v rfl (Was.cons (We.e2 (We.v rfl (We.c (Wg2.ix ?_ rfl rfl rfl)))))));exact Was.nil (WF.val h rfl rfl rfl)
theorem Ce(m:Int)(h:m<0):oA [.int m]=some (.val (.bl false)):=by
 apply Wr.eq;unfold oA
 (refine Dm.Wr.fn ?_ rfl rfl;and_intros)
 refine Ws.R (We.F (Was.cons (We.v rfl (Was.cons (We.c (Was.cons (We.e2 (We.c (We.c (Wg2.pow (z:=Z30) ?_ rfl rfl (by decide) (by decide)))))))))));exact Was.nil (WF.val (cy m 0 Z30 (by omega)) rfl rfl rfl)
theorem IV(n k:Nat)(n1:1<=n)(n10:n<=10)(k1:1<=k)(k6:k<=6)(K:List Tie)(lK:K.length<=60):∀d∈Cd n k K,cM [d]=some (.val (.bl false)):=by
 have ly:=ia k (by omega) (by omega);intro d hd;unfold Cd at hd;simp only[TU,Ut,SH,T9,or_false]at hd;rcases hd with rfl | rfl | rfl | rfl | rfl | rfl | rfl | rfl | rfl | rfl | rfl | rfl | rfl | rfl | rfl | rfl | rfl | rfl | rfl | rfl
 ·exact mS _ rfl
 ·exact mS _ rfl
 ·exact vm [] (by decide) (by decide)
 ·exact mS _ rfl
 ·exact vm [.int n,.int k] (by simp) (by simp)
 ·exact vm [.int n,.int k,bJ K,.int 0] (by simp) (by simp)
 ·exact gq _ _ _ ly (kj _ _ (nJ _ (mT _ _ _ rfl)))
 ·exact vo _ _ _ (nI _ (mT _ _ _ rfl))
 ·exact gq _ _ _ ly (kj _ _ (nJ _ (cy 0 1 10 (by decide))))
 ·exact vo _ _ _ (nI _ (cy 0 1 6 (by decide)))
 ·exact gq _ _ _ ly (kj _ _ (nJ _ (cy 11 1 10 (by decide))))
 ·exact vo _ _ _ (nI _ (cy 7 1 6 (by decide)))
 ·exact gq _ _ _ ly (xx n n1 n10 _ rfl)
 ·exact gq _ _ _ ly (xx n n1 n10 _ rfl)
 ·exact AM n k n1 n10 k1 k6 [⟨0,0,0⟩] (R5 n n1) fun ms al=>uq k1 rfl al
 ·exact mS _ rfl
 ·exact gq _ _ _ ly (vp n n1 n10 _ (ko _ _ (EX n 3 0 n (um 3 (by decide) (by decide)) (mL n 0 (by decide) (by omega)) (mR n n (by omega)))))
 ·exact gq _ _ _ ly (vp n n1 n10 _ (ko _ _ (EW n _ _ _ (Ce _ (by decide)))))
 ·exact gq _ _ _ ly (vp n n1 n10 _ (ko _ _ rfl))
 ·exact AM n 1 n1 n10 (by decide) (by decide) [⟨1,0,0⟩,⟨2,0,0⟩] (R6 n n1) fun ms al=>uq (by decide) rfl al
theorem WB.Qd{xs:List Dat}{o:Option (List Dat)}{K:RV->Prop}(k:K (.new (.lst xs)))(ho:o=some [.tup xs]):WB v9 o K:=⟨_,_,ho,rfl,k⟩
theorem Cf(x:Int)(n k:Nat)(n1:1<=n)(n10:n<=10)(k1:1<=k)(k6:k<=6)(K:List Tie)(lK:K.length<=60) :
  ∃d x',wY [bf x,aY n k K]=some (.val d,bf x')/\cM [d]=some (.val (.bl false)):=by
 suffices hh:WrM (wY [bf x,aY n k K]) fun v p=>∃d x',v=.val d/\p=bf x'/\cM [d]=some (.val (.bl false)) by obtain⟨v,p,h1,d,x',rfl,rfl,h2⟩:=hh;exact⟨d,x',h1,h2⟩
 unfold wY;refine WrM.fn ?_ rfl rfl;and_intros;unfold aY;refine Ws.seq (Ws.U (We.v rfl (Wk.val ⟨_,_,rfl,rfl,?_⟩)));have V:∀{a:Nat} {da:Dat} {ρ:Env} {r:List FE} {Q:List Val->Env->Prop},ρ[a]?=some (.sh da)->Was r ρ (fun xs ρ2=>Q (.val da::xs) ρ2)->Was (eV a::r) ρ Q:=fun h1 q=>Was.cons (We.v h1 q);have c:∀{da:Dat} {ρ:Env} {r:List FE} {Q:List Val->Env->Prop},Was r ρ (fun xs ρ2=>Q (.val da::xs) ρ2)->Was (eC da::r) ρ Q:=fun q=>Was.cons (We.c q);have E:∀{ρ:Env} {r:List FE} {Q:List Val->Env->Prop},Was r ρ (fun xs ρ2=>Q (.new (.lst [])::xs) ρ2)->Was (bP []::r) ρ Q:=fun q=>Was.cons (We.L (Was.nil (WT.mk q rfl rfl (by decide))));have z:∀{ds:List Dat},ds.length<20->ds.length<=SZ:=fun h=>by unfold SZ;omega
 refine Ws.seq (Ws.A (We.L (c (E (Was.cons (We.T (Was.nil (WT.mk ?_ rfl rfl (by decide)))))))) (by decide));refine Was.cons (We.B (V rfl (Was.nil (WB.Qd ?_ rfl))));refine Was.cons (We.T (V rfl (V rfl (Was.nil (WT.mk ?_ rfl rfl (z (by simp)))))));refine Was.cons (We.T (V rfl (V rfl (V rfl (c (Was.nil (WT.mk ?_ rfl rfl (z (by simp)))))))));refine Was.cons (We.T (c (V rfl (E (Was.nil (WT.mk ?_ rfl rfl (z (by simp))))))));refine Was.cons (We.T (V rfl (c (E (Was.nil (WT.mk ?_ rfl rfl (z (by simp))))))));refine Was.cons (We.T (c (V rfl (E (Was.nil (WT.mk ?_ rfl rfl (z (by simp))))))));refine Was.cons (We.T (V rfl (c (E (Was.nil (WT.mk ?_ rfl rfl (z (by simp))))))));refine Was.nil (WT.mk ?_ rfl rfl (z (by simp)));refine WA.new ?_ (by trivial);refine Ws.seq (Ws.A (We.e2 (We.w rfl (We.L (Was.cons (We.T (c (V rfl (E (Was.nil (WT.mk ?_ rfl rfl (z (by simp))))))))))) ) (by decide));refine Was.cons (We.T (V rfl (c (E (Was.nil (WT.mk ?_ rfl rfl (z (by simp))))))));refine Was.cons (We.T (V rfl (V rfl (c (Was.nil (WT.mk ?_ rfl rfl (z (by simp))))))));refine Was.cons (We.T (V rfl (V rfl (Was.cons (We.e2 (We.B (V rfl (Was.nil (WB.tuple ?_ rfl)))))))));refine We.T (c (Was.nil (WT.mk ?_ rfl rfl (z (by simp)))));refine⟨_,_,_,rfl,rfl,(show wM (.tup (K.map fD)) (.tup [.int 0])=some (.val (.tup (K.map fD++[.int 0]))) from if_pos (by simp;unfold SZ;omega)),?_⟩;refine Was.nil (WT.mk ?_ rfl rfl (z (by simp)));refine Was.cons (We.T (V rfl (V rfl (Was.cons (We.L (Was.cons (We.T (c (c (c (Was.nil (WT.mk ?_ rfl rfl (z (by simp))))))))))))));refine Was.nil (WT.mk ?_ rfl rfl (z (by simp)));refine Was.nil (WT.mk ?_ rfl rfl (z (by simp)));refine c (Was.nil (WT.mk ?_ rfl rfl (z (by simp))));refine Wg2.Iu ?_ rfl rfl (by simp;unfold SZ;omega);refine WA.new ?_ (by trivial);refine Ws.seq (Ws.A (We.e2 (We.w rfl (We.L (Was.cons (We.T (V rfl (V rfl (Was.cons (We.L (Was.cons (We.T (c (c (V rfl (Was.nil (WT.mk ?_ rfl rfl (z (by simp)))))))))))))))))) (by decide));refine Was.nil (WT.mk ?_ rfl rfl (z (by simp)));refine Was.nil (WT.mk ?_ rfl rfl (z (by simp)));refine Was.cons (We.T (V rfl (V rfl (Was.cons (We.L (Was.cons (We.T (Was.cons (We.e2 (We.c (We.c (Wg2.sub ?_ rfl rfl))))))))))));refine c (c (Was.nil (WT.mk ?_ rfl rfl (z (by simp)))));refine Was.nil (WT.mk ?_ rfl rfl (z (by simp)));refine Was.nil (WT.mk ?_ rfl rfl (z (by simp)));refine Was.cons (We.T (V rfl (V rfl (Was.cons (We.L (Was.cons (We.L (c (c (c (Was.nil (WT.mk ?_ rfl rfl (z (by simp))))))))))))));refine Was.nil (WT.mk ?_ rfl rfl (z (by simp)));refine Was.nil (WT.mk ?_ rfl rfl (z (by simp)));refine Was.cons (We.T (V rfl (c (Was.cons (We.L (Was.cons (We.T (c (c (c (Was.nil (WT.mk ?_ rfl rfl (z (by simp))))))))))))));refine Was.cons (We.T (c (c (c (Was.nil (WT.mk ?_ rfl rfl (z (by simp))))))));refine Was.nil (WT.mk ?_ rfl rfl (z (by simp)));refine Was.nil (WT.mk ?_ rfl rfl (z (by simp)));refine Was.nil (WT.mk ?_ rfl rfl (z (by simp)));refine Wg2.Iu ?_ rfl rfl (by simp;unfold SZ;omega);refine WA.new ?_ (by trivial);have hb:=IV n k n1 n10 k1 k6 K lK;have hL:(Cd n k K).length=20:=by unfold Cd;simp
 show Ws _ [_,_,_,_,_,.ow (.lst (Cd n k K))] _ _ _ _
 generalize Cd n k K=L at hb hL ⊢
 refine Ws.R (We.e2 (We.w rfl (We.take (We.B (Was.cons (We.w rfl (Was.nil (WB.len ?_ rfl))))) rfl)));refine fB.mk (g9 (m:=(L.length:Nat)) ?_ rfl rfl (by omega) (by unfold jM;omega));have hm:=di x (L.length:Nat) (by omega);have hi:(x % (L.length:Nat)).toNat<L.length:=by omega
 have hd:gIx (.lst L) (.int (x % (L.length:Nat)))=some (.val (L[(x % (L.length:Nat)).toNat])):=by unfold gIx;dsimp only;have:=mz id L (x % (L.length:Nat)) hm.1 hm.2;rw[Vc]at this;rw[this];rfl
 refine Wg2.ix ?_ rfl rfl hd;refine WR.val ?_;exact⟨_,rfl,_,_,rfl,rfl,hb _ (Vt _)⟩
theorem gb{f:List Dat->Option RV}{as:List FE}{ρ ρ1:Env}{xs:List Val}{ds:List Dat}(h1:eAs as ρ=some (xs,ρ1))(h2:pks ρ1 xs=some ds)(h:f ds=none):eF f as ρ=none:=by unfold eF;rw[h1];dsimp only;rw[h2];dsimp only;rw[h]
theorem gf{e:FE}{ρ:Env}(h:e ρ=none):sE e ρ=none:=by unfold sE;rw[h]
theorem fE{a b:FS}{ρ:Env}(h:a ρ=none):aD a b ρ=none:=by unfold aD;rw[h]
theorem gu{t:FT}{a b:FS}{ρ ρ1:Env}{c:Bool}(ht:t ρ=some (c,ρ1))(h:(if c then a ρ1 else b ρ1)=none):sIf t a b ρ=none:=by unfold sIf;rw[ht];cases c<;>exact h
theorem Cg{f g:FS}{ρ:Env}(h:f ρ=none){N:Env->Prop}{R:RV->Env->Prop}{B C:Env->Prop}(k:Ws g ρ N R B C):Ws (sUn f g) ρ N R B C:=by obtain⟨o,e,q⟩:=k;exact⟨o,by unfold sUn;rw[h];exact e,q⟩
theorem qK{R:Env->Option Env}{C ie:Nat}{h:FS}{ρ:Env}(e:R ρ=none):jS R C ie h ρ=none:=by unfold jS;rw[e]
theorem zv{Rr:Env->Option Env}{C ie:Nat}{h:FS}{ρ ρ1:Env}(e:Rr ρ=some ρ1)(h0:ie≠0){N:Env->Prop}{R:RV->Env->Prop}{B D:Env->Prop}(k:Ws h (ρ1.set ie (.sh (.exc C))) (fun ρ'=>N (ρ'.set ie .un)) (fun r ρ'=>R r (ρ'.set ie .un)) (fun _=>False) (fun _=>False)):Ws (jS Rr C ie h) ρ N R B D:=by
 obtain⟨o,eo,q⟩:=k;cases o with
 |nx ρ'=>exact⟨.nx (ρ'.set ie .un),by unfold jS;rw[e];dsimp only;rw[if_neg h0,eo],q⟩
 |ret r ρ'=>exact⟨.ret r (ρ'.set ie .un),by unfold jS;rw[e];dsimp only;rw[if_neg h0,eo],q⟩
 |bk ρ'=>exact q.elim
 |ct ρ'=>exact q.elim
theorem bG{bad:List Dat->Bool}{fs:List FE}{ρ ρ1:Env}{xs:List Val}{ds:List Dat}(h1:eAs fs ρ=some (xs,ρ1))(h2:pks ρ1 xs=some ds)(h:bad ds=true):bA bad fs ρ=some ρ1:=by unfold bA;rw[h1];dsimp only;rw[h2];dsimp only;rw[if_pos h]
theorem d7{n m:Nat}{body:FS}{ds:List Dat}(h:body (ds.map Cell.sh++Dp m .un)=none):fn n m body ds=none:=by
 unfold fn;split
 ·rw[h]
 ·rfl
theorem d8{n m:Nat}{R:Env->Option Env}{ds:List Dat}{ρ:Env}(hl:ds.length=n)(h:R (ds.map Cell.sh++Dp m .un)=some ρ):fnX n m R ds=true:=by unfold fnX;rw[h,decide_eq_true hl];rfl
theorem EY{n:Int}{a b:Dat}{c:Bool}(h:eT [.int n,a,b]=some (.val (.bl c))):(fh (tV (eF eT [(eV 0),(eV 1),(eV 2)]))) [.sh (.int n),.sh a,.sh b]=some (!c,[.sh (.int n),.sh a,.sh b]):=
 Wt.get (Wt.Not (Wt.V (We.F (Was.cons (We.v rfl (Was.cons (We.v rfl (Was.cons (We.v rfl (Was.nil (WF.val h (Wb.mk ⟨rfl,rfl⟩) rfl rfl)))))))))))
theorem qL{n:Int}{a b:Dat}(h:eT [.int n,a,b]=some (.val (.bl false))):Ew [.int n,a,b]=none:=d7 (gu (EY h) rfl)
theorem xy{n:Int}{a b:Dat}(h:eT [.int n,a,b]=some (.val (.bl false))):cB [.int n,a,b]=true:=d8 (ρ:=[.sh (.int n),.sh a,.sh b]) rfl (by show rIf _ _ _ [.sh (.int n),.sh a,.sh b]=_;unfold rIf;rw[EY h];rfl)
theorem EZ{d:Dat}{c:Bool}(h:cM [d]=some (.val (.bl c))):(fh (tV (eF cM [(eV 0)]))) [.sh d]=some (!c,[.sh d]):=
 Wt.get (Wt.Not (Wt.V (We.F (Was.cons (We.v rfl (Was.nil (WF.val h (Wb.mk ⟨rfl,rfl⟩) rfl rfl)))))))
theorem s_{d:Dat}(h:cM [d]=some (.val (.bl false))):oB [d]=none:=d7 (gu (EZ h) rfl)
theorem zw{d:Dat}(h:cM [d]=some (.val (.bl false))):b9 [d]=true:=d8 (ρ:=[.sh d]) rfl (by show rIf _ _ _ [.sh d]=_;unfold rIf;rw[EZ h];rfl)
theorem Ws.Grq{j:Nat}{it:FI}{bd:FB}{hx k vx:Nat}{t:FT}{ky:FE}{g:FS}{ρ:Env}{N:Env->Prop}{R:RV->Env->Prop}{B C:Env->Prop}(h0:¬(j=0\/hx=0\/j=hx))(h:Wi it (ρ.set j .un) fun ds ρ1=>∃ρ2 ks rows,u9 bd hx k vx t ky ds ρ1 [] []=some (ρ2,ks,rows)/\Ws g (ρ2.set j (.ow (.dct ks (rows.map .lst)))) N R B C):Ws (BV j it bd hx k vx t ky g) ρ N R B C:=by obtain⟨ds,ρ1,h1,ρ2,ks,rows,h2,o,h3,h4⟩:=h;exact⟨o,by unfold BV;rw[if_neg h0,h1];dsimp only;rw[h2];exact h3,h4⟩
theorem zx{n:Nat}(hn:n<=40){r:List Tie}(hg:Good n 0 r)(hl:r.length<=1000){a b:Int}(a0:0<=a)(a1:a<n)(b0:0<=b)(b1:b<n){k:Nat}(k6:k<=6):∃c:Bool,iJ [.int n,bJ r,.int a,.int b,.int k]=some (.val (.bl c)):=by
 obtain⟨ws,o,e,A⟩:=sZ n hn r hg.pl hg.nd hl a b a0 a1 b0 b1 k (by omega) (by omega);refine⟨isN (mJ o),?_⟩;apply Wr.eq;unfold iJ
 (refine Dm.Wr.fn ?_ rfl rfl;and_intros)
 refine Ws.R (We.e2 (We.e2 (We.F (Was.cons (We.v rfl (Was.cons (We.v rfl (Was.cons (We.v rfl (Was.cons (We.v rfl (Was.cons (We.v rfl (Was.nil (WF.box e ?_ rfl rfl rfl rfl)))))))))))))));refine We.c (Wg2.ix ?_ rfl rfl rfl);exact We.c (Wg2.isN rfl rfl rfl)
noncomputable def hB:Option RV->Bool
 |some (.val (.bl c))=>c
 |_=>false
theorem xA:∀(ns:List Int) (n:Int),o9 n ns∈n::ns
 |[],n=>Sy
 |x::r,n=>by
  show o9 (if x<n then x else n) r∈_;have:=xA r (if x<n then x else n);rcases SH.mp this with h | h
  ·rw[h];split
   ·exact SA _ Sy
   ·exact Sy
  ·exact SA _ (SA _ h)
structure GI(i:Nat)(ks:List Int)(rows:List (List Dat)):Prop where
 l1:ks.length=rows.length
 l2:ks.length<=i
 lo:∀x∈ks,0<=x/\x<i
 ro:∀row∈rows,row.length<=i/\∃ms:List Int,row=ms.map Dat.int
theorem IW{i:Nat}{ks:List Int}{rows:List (List Dat)}(h:GI i ks rows)(i40:i<=40)(g:Int)(hg:g∈ks\/g=i):∃ks' rows',BO ks rows g (.int (i:Nat))=some (ks',rows')/\GI (i+1) ks' rows':=by
 have h1:=h.l1;have h2:=h.l2;unfold BO;cases hf:ks.findIdx? (· == g) with
 |some m=>
  have hm:m<rows.length:=by have:=(List.findIdx?_eq_some_iff_getElem.mp hf).1;omega
  obtain⟨l,ms,e⟩:=h.ro _ (Vt hm);dsimp only;rw[SI hm];dsimp only;rw[if_pos (by unfold SZ;omega)];refine⟨_,_,rfl,⟨by rw[S3];exact h1,by omega,fun x hx=>by have:=h.lo x hx;omega,fun row hr=>?_⟩⟩;rcases List.mem_or_eq_of_mem_set hr with hr | hr
  ·obtain⟨l',ms'⟩:=h.ro row hr;exact⟨by omega,ms'⟩
  ·refine⟨by rw[hr,SK,TQ];omega,ms++[(i:Int)],?_⟩;rw[hr,e,Tg];rfl
 |none=>
  dsimp only;rw[if_pos (by unfold SZ;omega)];have ng:g=i:=by
   rcases hg with hg | hg
   ·exfalso;have:=List.findIdx?_eq_none_iff.mp hf g hg;simp at this
   ·exact hg
  refine⟨_,_,rfl,⟨by rw[SK,SK,h1];rfl,by rw[SK,TQ];omega,fun x hx=>?_,fun row hr=>?_⟩⟩
  ·rcases Te.mp hx with hx | hx
   ·have:=h.lo x hx;omega
   ·rw[SV.mp hx];omega
  ·rcases Te.mp hr with hr | hr
   ·obtain⟨l',ms'⟩:=h.ro row hr;exact⟨by omega,ms'⟩
   ·rw[SV.mp hr];exact⟨by simp,[(i:Int)],rfl⟩
noncomputable abbrev clT:FT:=tV (eF iJ [(e2 gIx (eV 0) (eC (.int 0))),(eV 3),(eV 7),(eV 5),(eV 1)])
noncomputable abbrev clK:FE:=eB qw ([(eV 6)]++[(eV 5)])
noncomputable abbrev clE(n k:Nat)(N r:List Tie)(j:Nat)(t:Dat)(c5 c6:Cell):Env:=[.sh (aY n k N),.sh (.int (j:Nat)),.sh t,.ow (bJ r),.un,c5,c6]
theorem E1{n k:Nat}(n10:n<=10)(N:List Tie){r:List Tie}(hg:Good n 0 r)(hl:r.length<=60){j:Nat}(j6:j<=6)(t:Dat):∀(m i:Nat) (ks:List Int) (rows:List (List Dat)) (c5 c6:Cell),i+m<=n->GI i ks rows ->
  ∃ks' rows' c5' c6',u9 (bN 5) 6 7 5 clT clK ((List.range' i m).map fun x:Nat=>Dat.int (x:Nat)) (clE n k N r j t c5 c6) ks rows=some (clE n k N r j t c5' c6',ks',rows')/\GI (i+m) ks' rows'
 |0,i,ks,rows,c5,c6,_,h=>⟨ks,rows,c5,c6,rfl,h⟩
 |m+1,i,ks,rows,c5,c6,him,h=>by
  have h2:=h.l2;rw[List.range'_succ,Dk];unfold u9;have e1:bN 5 (.int (i:Nat)) (clE n k N r j t c5 c6)=some (clE n k N r j t (.sh (.int (i:Nat))) c6):=rfl;rw[e1];dsimp only;rw[if_pos (show ks.length<=SZ by unfold SZ;omega)];have ht:∀x∈ks,clT (clE n k N r j t (.sh (.int (i:Nat))) c6++[.sh (.int x)])=some (hB (iJ [.int n,bJ r,.int x,.int (i:Nat),.int (j:Nat)]),clE n k N r j t (.sh (.int (i:Nat))) c6++[.sh (.int x)]):=fun x hx=>by
   obtain⟨x0,x1⟩:=h.lo x hx;obtain⟨c,e⟩:=zx (n:=n) (by omega) hg (by omega) x0 (by omega) (show (0:Int)<=(i:Nat) by omega) (by omega) (k:=j) j6;have eb:hB (iJ [.int n,bJ r,.int x,.int (i:Nat),.int (j:Nat)])=c:=by rw[e];rfl
   rw[eb];refine Wt.get (Wt.V (We.F (Was.cons (We.e2 (We.v rfl (We.c (Wg2.ix (v:=.int n) ?_ rfl rfl rfl)))))));exact Was.cons (We.w rfl (Was.cons (We.v rfl (Was.cons (We.v rfl (Was.cons (We.v rfl (Was.nil (WF.val e (Wb.mk ⟨rfl,rfl⟩) rfl rfl)))))))))
  obtain⟨c',e2⟩:=AA Dat.int (fun x=>hB (iJ [.int n,bJ r,.int x,.int (i:Nat),.int (j:Nat)])) Dat.int (bN 7) clT (eV 7) (fun c=>clE n k N r j t (.sh (.int (i:Nat))) c6++[c]) (fun d c=>rfl) ks .un [] ht (fun x hx _=>We.v rfl (Wk.val ⟨rfl,rfl⟩))
  ·rw[e2];dsimp only;rw[Ut];have e3:clK (((clE n k N r j t (.sh (.int (i:Nat))) c6++[c']).take (clE n k N r j t (.sh (.int (i:Nat))) c6).length).set 6 (.ow (.lst ((ks.filter fun x=>hB (iJ [.int n,bJ r,.int x,.int (i:Nat),.int (j:Nat)])).map Dat.int)))) =
     some (.val (.int (mw (ks.filter fun x=>hB (iJ [.int n,bJ r,.int x,.int (i:Nat),.int (j:Nat)])) (i:Nat))),clE n k N r j t (.sh (.int (i:Nat))) (.ow (.lst ((ks.filter fun x=>hB (iJ [.int n,bJ r,.int x,.int (i:Nat),.int (j:Nat)])).map Dat.int)))):=
    We.get (We.B (Was.cons (We.w rfl (Was.cons (We.v rfl (Was.nil (WB.minD ⟨rfl,rfl⟩ rfl)))))))
   rw[e3];dsimp only;have hgm:mw (ks.filter fun x=>hB (iJ [.int n,bJ r,.int x,.int (i:Nat),.int (j:Nat)])) (i:Nat)∈ks\/mw (ks.filter fun x=>hB (iJ [.int n,bJ r,.int x,.int (i:Nat),.int (j:Nat)])) (i:Nat)=(i:Nat):=by
    cases q:ks.filter fun x=>hB (iJ [.int n,bJ r,.int x,.int (i:Nat),.int (j:Nat)]) with
    |nil=>exact .inr rfl
    |cons y ys=>
     have hm:o9 y ys∈ks.filter fun x=>hB (iJ [.int n,bJ r,.int x,.int (i:Nat),.int (j:Nat)]):=by rw[q];exact xA ys y
     exact .inl (Ur.mp hm).1
   obtain⟨ks1,qx,e4,h4⟩:=IW h (by omega) _ hgm;obtain⟨ks2,Qe,d5,d6,e5,h5⟩:=E1 n10 N hg hl j6 t m (i+1) ks1 qx (.sh (.int (i:Nat))) (.ow (.lst ((ks.filter fun x=>hB (iJ [.int n,bJ r,.int x,.int (i:Nat),.int (j:Nat)])).map Dat.int))) (by omega) h4;refine⟨ks2,Qe,d5,d6,?_,by rw[show i+(m+1)=i+1+m by omega];exact h5⟩;show (match BO ks rows _ (.int (i:Nat)) with | some (ks1,qx)=>_ | none=>none)=_;rw[e4];exact e5
theorem jU{n k j:Nat}(n1:1<=n)(n10:n<=10)(k1:1<=k)(k6:k<=6)(j1:1<=j)(jk:j<=k){N:List Tie}(h:Net n k N):jc [aY n k N,.int (j:Nat)]=some (.val .non):=by
 apply Wr.eq;unfold jc
 (refine Dm.Wr.fn ?_ rfl rfl;and_intros)
 refine Ws.seq (Ws.E (We.F (Was.cons (We.v rfl (Was.nil (WF.val (oN n k n1 n10 k1 k6 N h) ?_ rfl rfl))))));refine Ws.If (Wt.Not (Wt.V (We.F (Was.cons (We.v rfl (Was.cons (We.c (Was.cons (We.e2 (We.v rfl (We.c (Wg2.ix (v:=.int (k:Nat)) ?_ rfl rfl rfl))))))))))));exact Was.nil (WF.val (eZ j 1 k (by omega) (by omega)) (Wb.mk (Wif.f (Ws.nx rfl))) rfl rfl)
noncomputable def qM(mss:List (List Int)):Dat:=.lst (mss.map fun ms=>.tup (ms.map Dat.int))
theorem zy{n k j:Nat}(n1:1<=n)(n10:n<=10)(k1:1<=k)(k6:k<=6)(j1:1<=j)(jk:j<=k){N:List Tie}(h:Net n k N)(t:Int):∃mss,jd [aY n k N,.int (j:Nat),.int t]=some (.new (qM mss)):=by
 have lN:=h.rc.len;have gN:=h.rc.good
 suffices hh:Wr (jd [aY n k N,.int (j:Nat),.int t]) fun v=>∃mss,v=.new (qM mss) by obtain⟨v,h1,mss,rfl⟩:=hh;exact⟨mss,h1⟩
 unfold jd
 (refine Dm.Wr.fn ?_ rfl rfl;and_intros)
 refine Ws.seq (Ws.E (We.F (Was.cons (We.v rfl (Was.cons (We.v rfl (Was.nil (WF.val (jU n1 n10 k1 k6 j1 jk h) ?_ rfl rfl))))))));refine Ws.seq (Ws.A (We.F (Was.cons (We.e2 (We.v rfl (We.c (Wg2.ix (v:=bJ N) ?_ rfl rfl rfl)))))) (by decide));refine Was.cons (We.v rfl (Was.nil (WF.box (ES N (by omega) t) (WA.new ?_ (by trivial)) rfl rfl rfl rfl)));have hg:Good n 0 (ER N t):=gN.since;have hl:=IU N t;refine Ws.Grq (by decide) (Wi.R1 (We.e2 (We.v rfl (We.c (Wg2.ix (v:=.int n) (fB.mk ⟨?_,by unfold BIG;omega,by unfold BIG;omega⟩) rfl rfl rfl)))));obtain⟨ks,rows,c5,c6,e,gi⟩:=E1 (k:=k) n10 N hg (by omega) (j:=j) (by omega) (.int t) n 0 [] [] .un .un (by omega) ⟨rfl,Sz _,(fun x hx=>by cases hx),(fun row hr=>by cases hr)⟩;have eu:ups 0 ((n:Nat):Int).toNat=(List.range' 0 n).map fun x:Nat=>Dat.int (x:Nat):=by rw[Vr,<- List.range_eq_range'];unfold ups;exact U9 fun x _=>by rw[VH]
 rw[eu];refine⟨_,ks,rows,e,?_⟩;have l1:=gi.l1;have l2:=gi.l2;refine Ws.R (We.Map Dat.lst rows (fun row=>row) Dat.tup (ρ1:=[.sh (aY n k N),.sh (.int (j:Nat)),.sh (.int t),.ow (bJ (ER N t)),.un,c5,c6]) ?_ rfl rfl (by decide) (by unfold SZ;omega) fun row hr=>?_)
 ·have ex:∃mss:List (List Int),rows=mss.map fun ms=>ms.map Dat.int:=by
   have hro:=gi.ro;clear e l1 gi l2
   induction rows with
   |nil=>exact⟨[],rfl⟩
   |cons row rows ih=>obtain⟨mss,e⟩:=ih fun r hr=>hro r (SA _ hr);obtain⟨_,ms,em⟩:=hro row Sy;exact⟨ms::mss,by rw[Dk,<- e,<- em]⟩
  obtain⟨mss,em⟩:=ex;refine WR.new ⟨mss,?_⟩;unfold qM;rw[em,T7,T7];rfl
 ·exact We.B (Was.cons (We.v rfl (Was.nil (WB.tuple (xs:=row) (Wk.val ⟨rfl,rfl⟩) rfl))))
theorem IX(mss:List (List Int)):eqD (qM mss) (qM mss)=true:=by
 have h3:∀l:List Int,pU (l.map Dat.int) (l.map Dat.int)=true:=fun l=>by
  induction l with
  |nil=>rfl
  |cons x l ih=>rw[Dk,pU,ih];simp[eqD]
 unfold qM;rw[eqD]
 induction mss with
 |nil=>rfl
 |cons b bs ih=>rw[Dk,pU,ih,eqD,h3];rfl
theorem IY(mss:List (List Int)):okD 8 (qM mss)=true:=P4 _ mss fun ms=>by rw[okD];rw[TR];intro x hx;obtain⟨i,_,rfl⟩:=S7.mp hx;rfl
theorem kq{n m:Nat}{R:Env->Option Env}{ds:List Dat}(h:R (ds.map Cell.sh++Dp m .un)=none):fnX n m R ds=false:=by unfold fnX;rw[h];simp
theorem d9{bad:List Dat->Bool}{fs:List FE}{ρ ρ1:Env}{xs:List Val}{ds:List Dat}(h1:eAs fs ρ=some (xs,ρ1))(h2:pks ρ1 xs=some ds)(h:bad ds=false):bA bad fs ρ=none:=by unfold bA;rw[h1];dsimp only;rw[h2];dsimp only;rw[h];rfl
section
variable{d:Dat}(h:cM [d]=some (.val (.bl false)))
include h
theorem qN{j:Dat}:jc [d,j]=none:=d7 (fE (gf (gb rfl rfl (s_ h))))
theorem E2{j:Dat}:aM [d,j]=true:=d8 rfl (bG rfl rfl (zw h))
theorem E3{j t:Dat}:jd [d,j,t]=none:=d7 (fE (gf (gb rfl rfl (qN h))))
theorem Qf{j t:Dat}:aX [d,j,t]=true:=d8 rfl (bG rfl rfl (E2 h))
theorem E4{j:Dat}:oE [d,j]=none:=d7 (fE (gf (gb rfl rfl (qN h))))
theorem Qg{j:Dat}:bB [d,j]=true:=d8 rfl (bG rfl rfl (E2 h))
theorem E5{a b j:Dat}:mG [d,a,b,j]=none:=d7 (fE (gf (gb rfl rfl (qN h))))
theorem Qh{a b j:Dat}:bI [d,a,b,j]=true:=d8 rfl (bG rfl rfl (E2 h))
end
section
variable{n k:Nat}(n1:1<=n)(n10:n<=10)(k1:1<=k)(k6:k<=6){N:List Tie}(hN:Net n k N)
include n1 n10 k1 k6 hN
theorem R7:b9 [aY n k N]=false:=kq (by show rIf _ _ _ [.sh (aY n k N)]=none;unfold rIf;rw[EZ (uo n k n1 n10 k1 k6 N hN)];rfl)
theorem M3{j:Dat}:aM [aY n k N,j]=false:=kq (d9 rfl rfl (R7 n1 n10 k1 k6 hN))
theorem R8{j t:Dat}:aX [aY n k N,j,t]=false:=kq (d9 rfl rfl (M3 n1 n10 k1 k6 hN))
theorem R9{j:Dat}:bB [aY n k N,j]=false:=kq (d9 rfl rfl (M3 n1 n10 k1 k6 hN))
theorem Qi{a b j:Dat}:bI [aY n k N,a,b,j]=false:=kq (d9 rfl rfl (M3 n1 n10 k1 k6 hN))
theorem M4{c:List Cell}:sE (eF oB [(eV 0)]) (.sh (aY n k N)::c)=some (.nx (.sh (aY n k N)::c)):=by have e:eF oB [(eV 0)] (.sh (aY n k N)::c)=some (.val .non,.sh (aY n k N)::c):=We.get (We.F (Was.cons (We.v rfl (Was.nil (WF.val (oN n k n1 n10 k1 k6 N hN) ⟨rfl,rfl⟩ rfl rfl)))));unfold sE;rw[e]
omit n1 n10 k1 k6 hN in
theorem M5{j:Dat}{c:Bool}(h:f_ [j,.int 1,.int k]=some (.val (.bl c))):(fh (tV (eF f_ [(eV 1),(eC (.int 1)),(e2 gIx (eV 0) (eC (.int 1)))]))) [.sh (aY n k N),.sh j]=some (!c,[.sh (aY n k N),.sh j]):=by refine Wt.get (Wt.Not (Wt.V (We.F (Was.cons (We.v rfl (Was.cons (We.c (Was.cons (We.e2 (We.v rfl (We.c (Wg2.ix (v:=.int k) ?_ rfl rfl rfl))))))))))));exact Was.nil (WF.val h (Wb.mk ⟨rfl,rfl⟩) rfl rfl)
section
variable{j:Dat}(h:f_ [j,.int 1,.int k]=some (.val (.bl false)))
include h
theorem qO:jc [aY n k N,j]=none:=d7 (by show aD _ _ [.sh (aY n k N),.sh j]=none;unfold aD;rw[M4 n1 n10 k1 k6 hN];exact gu (M5 h) rfl)
theorem E6:aI [aY n k N,j]=true:=d8 (ρ:=[.sh (aY n k N),.sh j]) rfl (by show sW _ _ [.sh (aY n k N),.sh j]=_;unfold sW;rw[M4 n1 n10 k1 k6 hN];show rIf _ _ _ [.sh (aY n k N),.sh j]=_;unfold rIf;rw[M5 h];rfl)
theorem E8{t:Dat}:jd [aY n k N,j,t]=none:=d7 (fE (gf (gb rfl rfl (qO n1 n10 k1 k6 hN h))))
theorem Qj{t:Dat}:bD [aY n k N,j,t]=true:=d8 rfl (bG rfl rfl (E6 n1 n10 k1 k6 hN h))
theorem E9:oE [aY n k N,j]=none:=d7 (fE (gf (gb rfl rfl (qO n1 n10 k1 k6 hN h))))
theorem Qk:bM [aY n k N,j]=true:=d8 rfl (bG rfl rfl (E6 n1 n10 k1 k6 hN h))
theorem E_{a b:Dat}:mG [aY n k N,a,b,j]=none:=d7 (fE (gf (gb rfl rfl (qO n1 n10 k1 k6 hN h))))
theorem Ql{a b:Dat}:bu [aY n k N,a,b,j]=true:=d8 rfl (bG rfl rfl (E6 n1 n10 k1 k6 hN h))
end
section
variable{j:Nat}(j1:1<=j)(jk:j<=k){a b:Dat}(h:eT [.int n,a,b]=some (.val (.bl false)))
include j1 jk
theorem Qm:aI [aY n k N,.int (j:Nat)]=false:=kq (by show sW _ _ [.sh (aY n k N),.sh (.int (j:Nat))]=none;unfold sW;rw[M4 n1 n10 k1 k6 hN];show rIf _ _ _ [.sh (aY n k N),.sh (.int (j:Nat))]=none;unfold rIf;rw[M5 (eZ j 1 k (by omega) (by omega))];rfl)
theorem Qn{a b:Dat}:bu [aY n k N,a,b,.int (j:Nat)]=false:=kq (d9 rfl rfl (Qm n1 n10 k1 k6 hN j1 jk))
theorem Qo{a b:Dat}{c:List Cell}:sE (eF jc [(eV 0),(eV 3)]) (.sh (aY n k N)::.sh a::.sh b::.sh (.int (j:Nat))::c)=some (.nx (.sh (aY n k N)::.sh a::.sh b::.sh (.int (j:Nat))::c)):=by have e:eF jc [(eV 0),(eV 3)] (.sh (aY n k N)::.sh a::.sh b::.sh (.int (j:Nat))::c)=some (.val .non,.sh (aY n k N)::.sh a::.sh b::.sh (.int (j:Nat))::c):=We.get (We.F (Was.cons (We.v rfl (Was.cons (We.v rfl (Was.nil (WF.val (jU n1 n10 k1 k6 j1 jk hN) ⟨rfl,rfl⟩ rfl rfl)))))));unfold sE;rw[e]
include h
theorem Fb:mG [aY n k N,a,b,.int (j:Nat)]=none:=d7 (by show aD _ _ [.sh (aY n k N),.sh a,.sh b,.sh (.int (j:Nat)),.un,.un,.un]=none;unfold aD;rw[Qo n1 n10 k1 k6 hN j1 jk];exact fE (gf (gb (ds:=[.int n,a,b]) rfl rfl (qL h))))
theorem Qp:cT [aY n k N,a,b,.int (j:Nat)]=true:=d8 (ρ:=[.sh (aY n k N),.sh a,.sh b,.sh (.int (j:Nat)),.un,.un,.un]) rfl (by show sW _ _ [.sh (aY n k N),.sh a,.sh b,.sh (.int (j:Nat)),.un,.un,.un]=_;unfold sW;rw[Qo n1 n10 k1 k6 hN j1 jk];exact bG (ds:=[.int n,a,b]) rfl rfl (xy h))
end
end
noncomputable abbrev ans(i:Nat):Dat:=.lst [.bl (decide (i=0)),.bl (decide (i=1)),.bl (decide (i=2)),.bl false]
theorem qP{cs:List Nat}{bs:List Bool}{C:Nat}{b:Bool}{o:Option Dat}{K:RV->Prop}(k:K (.val (.bl b)))(ho:o=some (.exc C))(h:nC cs bs C=some b):Wg1 (cA cs bs) o K:=⟨_,_,ho,by show (nC cs bs C).bind vB=_;rw[h];rfl,k⟩
noncomputable def Is(x y z C i:Nat):Prop:=∀a b c:Bool,nC [x,y,z] [a,b,c] C=some (if i=0 then a else if i=1 then b else c)
theorem is0(x y z:Nat):Is x y z x 0:=fun a b c=>by unfold nC;rw[if_pos rfl];rfl
theorem is1{x y z:Nat}(h:y≠x):Is x y z y 1:=fun a b c=>by unfold nC;rw[if_neg h];unfold nC;rw[if_pos rfl];rfl
theorem is2{x y z:Nat}(h1:z≠x)(h2:z≠y):Is x y z z 2:=fun a b c=>by unfold nC;rw[if_neg h1];unfold nC;rw[if_neg h2];unfold nC;rw[if_pos rfl];rfl
noncomputable abbrev hdl(x y z:Nat):FS:=(aD (sA 6 (eOr (e1 (cA [x,y,z] [false,false,false]) (eV 5)) (sM (e1 (cA [x,y,z] [true,true,true]) (eV 5)))))
  (sR (bP [(e1 (cA [x,y,z] [true,false,false]) (eV 5)),(e1 (cA [x,y,z] [false,true,false]) (eV 5)),(e1 (cA [x,y,z] [false,false,true]) (eV 5)),(eV 6)])))
theorem handler{x y z C i:Nat}(hI:Is x y z C i)(hi:i=0\/i=1\/i=2)(c0 c1 c2 c3 c4 c6:Cell){N:Env->Prop}{R:RV->Env->Prop}{B D:Env->Prop}(k:∀ρ,R (.new (ans i)) ρ):Ws (hdl x y z) [c0,c1,c2,c3,c4,.sh (.exc C),c6] N R B D:=by
 have e1:(if i=0 then false else if i=1 then false else false)=false:=by split<;>(try split)<;>rfl
 have e2:(if i=0 then true else if i=1 then true else true)=true:=by split<;>(try split)<;>rfl
 refine Ws.seq (Ws.A (We.Or (We.e1 (We.v rfl (qP (b:=false) (Wb.mk (Wif.f ?_)) rfl (by rw[hI,e1]))))) (by decide));refine We.Not (We.e1 (We.v rfl (qP (b:=true) (Wb.mk (WA.val ?_ (by trivial))) rfl (by rw[hI,e2]))));refine Ws.R (We.L (Was.cons (We.e1 (We.v rfl (qP ?_ rfl (hI _ _ _))))));refine Was.cons (We.e1 (We.v rfl (qP ?_ rfl (hI _ _ _))));refine Was.cons (We.e1 (We.v rfl (qP ?_ rfl (hI _ _ _))));refine Was.cons (We.v rfl (Was.nil (WT.mk ?_ rfl rfl (by exact SJ rfl))));refine WR.new ?_;rcases hi with rfl | rfl | rfl<;>exact k _
noncomputable abbrev quiet:FS:=(sIf (tV (e2 gEq (eV 0) (eC (.int 0)))) (sE (eF (fun ds=>jd (ds++[.int 0])) [(eV 1),(eV 4)])) (sIf (tV (e2 gEq (eV 0) (eC (.int 1)))) (sE (eF oE [(eV 1),(eV 4)])) (sE (eF mG [(eV 1),(eV 2),(eV 3),(eV 4)]))))
noncomputable abbrev rA:Env->Option Env:=(rIf (tV (e2 gEq (eV 0) (eC (.int 0)))) (bA (fun ds=>aX (ds++[.int 0])) [(eV 1),(eV 4)]) (rIf (tV (e2 gEq (eV 0) (eC (.int 1)))) (bA bB [(eV 1),(eV 4)]) (bA bI [(eV 1),(eV 2),(eV 3),(eV 4)])))
noncomputable abbrev rB:Env->Option Env:=(rIf (tV (e2 gEq (eV 0) (eC (.int 0)))) (bA (fun ds=>bD (ds++[.int 0])) [(eV 1),(eV 4)]) (rIf (tV (e2 gEq (eV 0) (eC (.int 1)))) (bA bM [(eV 1),(eV 4)]) (bA bu [(eV 1),(eV 2),(eV 3),(eV 4)])))
noncomputable abbrev rC:Env->Option Env:=(rIf (tV (e2 gEq (eV 0) (eC (.int 0)))) rNo (rIf (tV (e2 gEq (eV 0) (eC (.int 1)))) rNo (bA cT [(eV 1),(eV 2),(eV 3),(eV 4)])))
noncomputable abbrev E7(w:Int)(d a b j:Dat):Env:=[.sh (.int w),.sh d,.sh a,.sh b,.sh j,.un,.un]
section
variable{w:Int}(hw:w=0\/w=1\/w=2){d a b j:Dat}
include hw
theorem kr(h0:w=0->jd [d,j,.int 0]=none)(h1:w=1->oE [d,j]=none)(h2:w=2->mG [d,a,b,j]=none):quiet (E7 w d a b j)=none:=by
 rcases hw with rfl | rfl | rfl
 ·exact gu (c:=true) (ρ1:=E7 0 d a b j) rfl (gf (gb (ρ:=E7 0 d a b j) (ρ1:=E7 0 d a b j) (xs:=[.val d,.val j]) (ds:=[d,j]) rfl rfl (h0 rfl)))
 ·refine gu (c:=false) (ρ1:=E7 1 d a b j) rfl ?_;show sIf (tV (e2 gEq (eV 0) (eC (.int 1)))) (sE (eF oE [(eV 1),(eV 4)])) (sE (eF mG [(eV 1),(eV 2),(eV 3),(eV 4)])) (E7 1 d a b j)=none;exact gu (c:=true) (ρ1:=E7 1 d a b j) rfl (gf (gb (ρ:=E7 1 d a b j) (ρ1:=E7 1 d a b j) (xs:=[.val d,.val j]) (ds:=[d,j]) rfl rfl (h1 rfl)))
 ·refine gu (c:=false) (ρ1:=E7 2 d a b j) rfl ?_;show sIf (tV (e2 gEq (eV 0) (eC (.int 1)))) (sE (eF oE [(eV 1),(eV 4)])) (sE (eF mG [(eV 1),(eV 2),(eV 3),(eV 4)])) (E7 2 d a b j)=none;exact gu (c:=false) (ρ1:=E7 2 d a b j) rfl (gf (gb (ρ:=E7 2 d a b j) (ρ1:=E7 2 d a b j) (xs:=[.val d,.val a,.val b,.val j]) (ds:=[d,a,b,j]) rfl rfl (h2 rfl)))
theorem M6(h0:w=0->aX [d,j,.int 0]=true)(h1:w=1->bB [d,j]=true)(h2:w=2->bI [d,a,b,j]=true):rA (E7 w d a b j)=some (E7 w d a b j):=by
 rcases hw with rfl | rfl | rfl
 ·show bA (fun ds=>aX (ds++[.int 0])) [(eV 1),(eV 4)] (E7 0 d a b j)=some (E7 0 d a b j);exact bG (ρ1:=E7 0 d a b j) (xs:=[.val d,.val j]) (ds:=[d,j]) rfl rfl (h0 rfl)
 ·show bA (bB) [(eV 1),(eV 4)] (E7 1 d a b j)=some (E7 1 d a b j);exact bG (ρ1:=E7 1 d a b j) (xs:=[.val d,.val j]) (ds:=[d,j]) rfl rfl (h1 rfl)
 ·show bA (bI) [(eV 1),(eV 2),(eV 3),(eV 4)] (E7 2 d a b j)=some (E7 2 d a b j);exact bG (ρ1:=E7 2 d a b j) (xs:=[.val d,.val a,.val b,.val j]) (ds:=[d,a,b,j]) rfl rfl (h2 rfl)
theorem Kc(h0:w=0->aX [d,j,.int 0]=false)(h1:w=1->bB [d,j]=false)(h2:w=2->bI [d,a,b,j]=false):rA (E7 w d a b j)=none:=by
 rcases hw with rfl | rfl | rfl
 ·show bA (fun ds=>aX (ds++[.int 0])) [(eV 1),(eV 4)] (E7 0 d a b j)=none;exact d9 (ρ1:=E7 0 d a b j) (xs:=[.val d,.val j]) (ds:=[d,j]) rfl rfl (h0 rfl)
 ·show bA (bB) [(eV 1),(eV 4)] (E7 1 d a b j)=none;exact d9 (ρ1:=E7 1 d a b j) (xs:=[.val d,.val j]) (ds:=[d,j]) rfl rfl (h1 rfl)
 ·show bA (bI) [(eV 1),(eV 2),(eV 3),(eV 4)] (E7 2 d a b j)=none;exact d9 (ρ1:=E7 2 d a b j) (xs:=[.val d,.val a,.val b,.val j]) (ds:=[d,a,b,j]) rfl rfl (h2 rfl)
theorem M7(h0:w=0->bD [d,j,.int 0]=true)(h1:w=1->bM [d,j]=true)(h2:w=2->bu [d,a,b,j]=true):rB (E7 w d a b j)=some (E7 w d a b j):=by
 rcases hw with rfl | rfl | rfl
 ·show bA (fun ds=>bD (ds++[.int 0])) [(eV 1),(eV 4)] (E7 0 d a b j)=some (E7 0 d a b j);exact bG (ρ1:=E7 0 d a b j) (xs:=[.val d,.val j]) (ds:=[d,j]) rfl rfl (h0 rfl)
 ·show bA (bM) [(eV 1),(eV 4)] (E7 1 d a b j)=some (E7 1 d a b j);exact bG (ρ1:=E7 1 d a b j) (xs:=[.val d,.val j]) (ds:=[d,j]) rfl rfl (h1 rfl)
 ·show bA (bu) [(eV 1),(eV 2),(eV 3),(eV 4)] (E7 2 d a b j)=some (E7 2 d a b j);exact bG (ρ1:=E7 2 d a b j) (xs:=[.val d,.val a,.val b,.val j]) (ds:=[d,a,b,j]) rfl rfl (h2 rfl)
end
section
variable{x y z:Nat}
theorem oO{w:Int}(hw:w=0\/w=1\/w=2){d a b j:Dat}(h:cM [d]=some (.val (.bl false))):iD x y z [.int w,d,a,b,j]=some (.new (ans 0)):=by
 apply Wr.eq;unfold iD
 (refine Dm.Wr.fn ?_ rfl rfl;and_intros)
 refine Ws.seq ?_;refine Cg (kr hw (fun _=>E3 h) (fun _=>E4 h) (fun _=>E5 h)) ?_;obtain⟨o,e,q⟩:=zv (ie:=5) (C:=x) (N:=fun _=>False) (R:=fun r _=>r=.new (ans 0)) (B:=fun _=>False) (D:=fun _=>False) (M6 hw (a:=a) (b:=b) (j:=j) (fun _=>Qf h) (fun _=>Qg h) (fun _=>Qh h)) (by decide) (handler (is0 x y z) (.inl rfl) _ _ _ _ _ _ (fun _=>rfl));refine⟨o,by unfold sUn;rw[e],?_⟩;cases o with
 |nx ρ=>exact q.elim
 |ret r ρ=>exact q
 |bk ρ=>exact q.elim
 |ct ρ=>exact q.elim
variable{n k:Nat}(n1:1<=n)(n10:n<=10)(k1:1<=k)(k6:k<=6){N:List Tie}(hN:Net n k N)
include n1 n10 k1 k6 hN
theorem oQ(h1:y≠x){w:Int}(hw:w=0\/w=1\/w=2){a b j:Dat}(h:f_ [j,.int 1,.int k]=some (.val (.bl false))):iD x y z [.int w,aY n k N,a,b,j]=some (.new (ans 1)):=by
 apply Wr.eq;unfold iD
 (refine Dm.Wr.fn ?_ rfl rfl;and_intros)
 refine Ws.seq ?_;refine Cg (kr hw (fun _=>E8 n1 n10 k1 k6 hN h) (fun _=>E9 n1 n10 k1 k6 hN h) (fun _=>E_ n1 n10 k1 k6 hN h)) ?_;refine Cg (qK (Kc hw (fun _=>R8 n1 n10 k1 k6 hN) (fun _=>R9 n1 n10 k1 k6 hN) (fun _=>Qi n1 n10 k1 k6 hN))) ?_;obtain⟨o,e,q⟩:=zv (ie:=5) (C:=y) (N:=fun _=>False) (R:=fun r _=>r=.new (ans 1)) (B:=fun _=>False) (D:=fun _=>False) (M7 hw (a:=a) (b:=b) (fun _=>Qj n1 n10 k1 k6 hN h) (fun _=>Qk n1 n10 k1 k6 hN h) (fun _=>Ql n1 n10 k1 k6 hN h)) (by decide) (handler (is1 h1) (.inr (.inl rfl)) _ _ _ _ _ _ (fun _=>rfl));refine⟨o,by unfold sUn;rw[e],?_⟩;cases o with
 |nx ρ=>exact q.elim
 |ret r ρ=>exact q
 |bk ρ=>exact q.elim
 |ct ρ=>exact q.elim
theorem vq(h1:z≠x)(h2:z≠y){j:Nat}(j1:1<=j)(jk:j<=k){a b:Dat}(h:eT [.int n,a,b]=some (.val (.bl false))):iD x y z [.int 2,aY n k N,a,b,.int (j:Nat)]=some (.new (ans 2)):=by
 apply Wr.eq;unfold iD
 (refine Dm.Wr.fn ?_ rfl rfl;and_intros)
 refine Ws.seq ?_;refine Cg (kr (w:=2) (.inr (.inr rfl)) (fun q=>by cases q) (fun q=>by cases q) (fun _=>Fb n1 n10 k1 k6 hN j1 jk h)) ?_;refine Cg (qK (Kc (w:=2) (.inr (.inr rfl)) (fun q=>by cases q) (fun q=>by cases q) (fun _=>Qi n1 n10 k1 k6 hN))) ?_;refine Cg (qK (show rB (E7 2 (aY n k N) a b (.int (j:Nat)))=none from d9 (fs:=[(eV 1),(eV 2),(eV 3),(eV 4)]) (bad:=bu) (ρ:=E7 2 (aY n k N) a b (.int (j:Nat))) (ρ1:=E7 2 (aY n k N) a b (.int (j:Nat))) (xs:=[.val (aY n k N),.val a,.val b,.val (.int (j:Nat))]) (ds:=[aY n k N,a,b,.int (j:Nat)]) rfl rfl (Qn n1 n10 k1 k6 hN j1 jk))) ?_;exact zv (ie:=5) (C:=z) (show rC (E7 2 (aY n k N) a b (.int (j:Nat)))=some (E7 2 (aY n k N) a b (.int (j:Nat))) from bG (fs:=[(eV 1),(eV 2),(eV 3),(eV 4)]) (bad:=cT) (ρ:=E7 2 (aY n k N) a b (.int (j:Nat))) (ρ1:=E7 2 (aY n k N) a b (.int (j:Nat))) (xs:=[.val (aY n k N),.val a,.val b,.val (.int (j:Nat))]) (ds:=[aY n k N,a,b,.int (j:Nat)]) rfl rfl (Qp n1 n10 k1 k6 hN j1 jk h)) (by decide) (handler (is2 h1 h2) (.inr (.inr rfl)) _ _ _ _ _ _ (fun _=>rfl))
end
theorem vt(x:Int)(k:Nat)(k1:1<=k)(k6:k<=6):∃d x',w_ [bf x,.int k]=some (.val d,bf x')/\f_ [d,.int 1,.int k]=some (.val (.bl false)):=by
 suffices hh:WrM (w_ [bf x,.int k]) fun v p=>∃d x',v=.val d/\p=bf x'/\f_ [d,.int 1,.int k]=some (.val (.bl false)) by obtain⟨v,p,h1,d,x',rfl,rfl,h2⟩:=hh;exact⟨d,x',h1,h2⟩
 obtain⟨o,x1,e1,no⟩:=ET x;have po:=no.2 k k6;unfold w_;refine WrM.fn ?_ rfl rfl;and_intros;refine Ws.seq (Ws.A (We.Fm (Was.nil (WFm.any e1 (WA.val ?_ (by trivial)) rfl rfl (by trivial))) rfl) (by decide));obtain⟨d,hd,nd⟩:∃d,gIx (.lst [o,.int 0,.int ((k:Int)+1),.int (0-1),.bl true,o]) (.int (x1 % 6))=some (.val d)/\f_ [d,.int 1,.int k]=some (.val (.bl false)):=by
  have hm:=di x1 6 (by decide);have:x1 % 6=0\/x1 % 6=1\/x1 % 6=2\/x1 % 6=3\/x1 % 6=4\/x1 % 6=5:=by omega
  rcases this with e | e | e | e | e | e<;>rw[e]
  ·exact⟨_,rfl,po⟩
  ·exact⟨_,rfl,cy _ _ _ (by omega)⟩
  ·exact⟨_,rfl,cy _ _ _ (by omega)⟩
  ·exact⟨_,rfl,cy _ _ _ (by omega)⟩
  ·exact⟨_,rfl,rfl⟩
  ·exact⟨_,rfl,po⟩
 refine Ws.R (We.e2 ⟨_,_,rfl,?_⟩);refine We.take (We.c (fB.mk (g9 (m:=6) ?_ rfl rfl (by decide) (by decide)))) rfl;refine Wg2.ix ?_ rfl rfl hd;refine WR.val ?_;exact⟨_,rfl,d,_,rfl,rfl,nd⟩
theorem Wg2.xB{i:Nat}{d:Dat}{o p:Option Dat}{Q:RV->Prop}(h:ans i=d)(k:Q (.val (.bl false)))(ho:o=some (ans i))(hp:p=some d):Wg2 gNe o p Q:=by subst h;exact Wg2.MX (d:=ans i) rfl (by simp[eqD,pU]) k ho hp
section
variable(x y z:Nat)(hne:y≠x/\z≠x/\z≠y)
include hne
theorem IZ(ns:List Int)(at_:Int)(h0:0<=at_)(h1:at_<900)(n k:Nat)(n1:1<=n)(n10:n<=10)(k1:1<=k)(k6:k<=6)(N:List Tie)(hN:Net n k N)(lN:N.length<=60)(c1 c6 c7 c8 c9 c10:Cell){Nx:Env->Prop}{R:RV->Env->Prop}{B C:Env->Prop}
  (nx:∀c1 c6 c7 c8 c9 c10,Nx [.sh (.lst (ns.map Dat.int)),c1,.sh (.int n),.sh (.int k),.sh (aY n k N),.sh (.int at_),c6,c7,c8,c9,c10]) :
  Ws (zm x y z) [.sh (.lst (ns.map Dat.int)),c1,.sh (.int n),.sh (.int k),.sh (aY n k N),.sh (.int at_),c6,c7,c8,c9,c10] Nx R B C:=by
 obtain⟨p0,ep⟩:=vh ns at_ h0 (by omega);obtain⟨a,b,p1,epr,npr⟩:=EV p0 n n1 n10;obtain⟨j,p2,ej,nj⟩:=vt p1 k k1 k6;obtain⟨d,p3,ed,nd⟩:=Cf p2 n k n1 n10 k1 k6 N lN;unfold zm;refine Ws.seq (Ws.A (We.F (Was.cons (We.v rfl (Was.cons (We.v rfl (Was.nil (WF.box ep (WA.new ?_ (by trivial)) rfl rfl rfl rfl))))))) (by decide));refine Ws.seq (Ws.U (We.Fm (Was.cons (We.v rfl (Was.nil (WFm.any epr ?_ rfl rfl (by trivial))))) rfl));refine Wk.val ⟨_,_,rfl,rfl,?_⟩;refine Ws.seq (Ws.A (We.Fm (Was.cons (We.v rfl (Was.nil (WFm.any ej (WA.val ?_ (by trivial)) rfl rfl (by trivial))))) rfl) (by decide));refine Ws.seq (Ws.A (We.Fm (Was.cons (We.v rfl (Was.nil (WFm.any ed (WA.val ?_ (by trivial)) rfl rfl (by trivial))))) rfl) (by decide));refine Ws.seq (Ws.For (Wi.R1 (We.c (fB.mk ⟨?_,by unfold BIG;omega⟩))));refine Ws.inv (fun i:Nat=>Dat.int (0+(i:Nat))) _ _ (SR 3) _ _ _ _ _ (fun p q ρ=>∃c10:Cell,ρ=[.sh (.lst (ns.map Dat.int)),.ow (bf p3),.sh (.int n),.sh (.int k),.sh (aY n k N),.sh (.int at_),.sh a,.sh b,.sh j,.sh d,c10]) ⟨_,rfl⟩ ?_ ?_
 ·rintro p i q ρ e ⟨c10,rfl⟩;have hi:i<3:=TX.mp (by rw[e];simp);have hw:(0+(i:Int))=0\/(0+(i:Int))=1\/(0+(i:Int))=2:=by omega
  refine Dm.ff rfl (by trivial) ?_;unfold EC;refine Ws.seq (Ws.If (Wt.V (We.e2 (We.F (Was.cons (We.v rfl (Was.cons (We.v rfl (Was.cons (We.v rfl (Was.cons (We.v rfl (Was.cons (We.v rfl (Was.nil (WF.box (oO hw nd) ?_ rfl rfl rfl rfl))))))))))))))));refine⟨_,_,rfl,Wg2.xB (i:=0) rfl (Wb.mk (Wif.f (Ws.nx ?_))) rfl rfl⟩;refine Ws.seq (Ws.If (Wt.V (We.e2 (We.F (Was.cons (We.v rfl (Was.cons (We.v rfl (Was.cons (We.c (Was.cons (We.e2 (We.v rfl (We.c (Wg2.sub ?_ rfl rfl)))))))))))))));refine Was.cons (We.c (Was.nil (WF.box (oO hw nd) ?_ rfl rfl rfl rfl)));refine⟨_,_,rfl,Wg2.xB (i:=0) rfl (Wb.mk (Wif.f (Ws.nx ?_))) rfl rfl⟩;refine Ws.If (Wt.V (We.e2 (We.F (Was.cons (We.v rfl (Was.cons (We.v rfl (Was.cons (We.v rfl (Was.cons (We.v rfl (Was.cons (We.v rfl (Was.nil (WF.box (oQ n1 n10 k1 k6 hN hne.1 hw nj) ?_ rfl rfl rfl rfl)))))))))))))));exact⟨_,_,rfl,Wg2.xB (i:=1) rfl (Wb.mk (Wif.f (Ws.nx ⟨_,rfl⟩))) rfl rfl⟩
 ·rintro ρ ⟨c10,rfl⟩;refine Ws.seq (Ws.If (Wt.V (We.e2 (We.F (Was.cons (We.c (Was.cons (We.v rfl (Was.cons (We.c (Was.cons (We.e2 (We.v rfl (We.c (Wg2.sub ?_ rfl rfl)))))))))))))));refine Was.cons (We.v rfl (Was.nil (WF.box (oQ n1 n10 k1 k6 hN hne.1 (.inr (.inr rfl)) nj) ?_ rfl rfl rfl rfl)));refine⟨_,_,rfl,Wg2.xB (i:=1) rfl (Wb.mk (Wif.f (Ws.nx ?_))) rfl rfl⟩;refine Ws.If (Wt.V (We.e2 (We.F (Was.cons (We.c (Was.cons (We.v rfl (Was.cons (We.v rfl (Was.cons (We.v rfl (Was.cons (We.e2 (We.c ?_))))))))))))) );refine We.drw (m:=k) rfl (by omega) (by unfold jM;omega) rfl fun t p4 t0 t1 ρ3 e=>?_;subst e;obtain⟨jj,ejj⟩:∃jj:Nat,1+t=(jj:Nat):=⟨(1+t).toNat,by omega⟩
  refine Wg2.add ?_ rfl rfl;rw[ejj];refine Was.nil (WF.box (vq n1 n10 k1 k6 hN hne.2.1 hne.2.2 (j:=jj) (by omega) (by omega) npr) ?_ rfl rfl rfl rfl);exact⟨_,_,rfl,Wg2.xB (i:=2) rfl (Wb.mk (Wif.f (Ws.nx (nx _ _ _ _ _ _)))) rfl rfl⟩
theorem math(ns:List Int)(h:ns.length<=63):qD x y z [.lst (ns.map Dat.int)]=some (.val (.bl true)):=by
 apply Wr.eq;unfold qD
 (refine Dm.Wr.fn ?_ rfl rfl;and_intros)
 obtain⟨p,ep⟩:=vh ns 12 (by decide) (by decide);obtain⟨q,eq⟩:=vh ns 13 (by decide) (by decide);obtain⟨n,x1,en,n1,n10⟩:=IK p;obtain⟨n,rfl⟩:∃m:Nat,n=m:=⟨n.toNat,by omega⟩
 obtain⟨r,y',er,gr,lr,mr⟩:=B8 q n 10 (by omega) (by omega) (by decide) (by decide);have hr:Rcd n r:=Rcd.of gr (by omega) mr;refine Ws.seq (Ws.A (We.F (Was.cons (We.v rfl (Was.cons (We.c (Was.nil (WF.box ep (WA.new ?_ (by trivial)) rfl rfl rfl rfl))))))) (by decide));refine Ws.seq (Ws.A (We.Fm (Was.nil (WFm.any en (WA.val ?_ (by trivial)) rfl rfl (by trivial))) rfl) (by decide));refine Ws.cut (fun ρ=>∃(k:Nat) (x2:Int),(1<=k/\k<=6)/\ρ=[.sh (.lst (ns.map Dat.int)),.ow (bf x2),.sh (.int (n:Nat)),.sh (.int (k:Nat)),.un,.un,.un,.un,.un,.un,.un]) ?_ ?_
 ·refine Ws.A (We.e2 (We.c ?_)) (by decide);refine We.drw (m:=6) rfl (by decide) (by decide) rfl fun t x2 t0 t1 ρ3 e=>?_;subst e;refine Wg2.add (WA.val ⟨(1+t).toNat,x2,by omega,?_⟩ rfl) rfl rfl;rw[Int.toNat_of_nonneg (by omega)];rfl
 rintro ρ ⟨k,x2,⟨k1,k6⟩,rfl⟩;obtain⟨ms,_,al⟩:=g_ n k (by omega) k1 k6 r hr.ends (by omega);have R_:=MZ n k (by omega) k1 k6 r ms hr.ends (by omega) al;have sK:=qI r ms;have lK:=sK.length_le;have net:Net n k (keep r ms):=⟨hr.sub sK,_,xu al,fun z=>by simpa using(Ur.mp z).2⟩
 generalize keep r ms=K at *
 refine Ws.seq (Ws.A (We.F (Was.cons (We.v rfl (Was.cons (We.Fn ?_))))) (by decide));refine Was.cons (We.F (Was.cons (We.v rfl (Was.cons (We.c (Was.nil (WF.box eq ?_ rfl rfl rfl rfl)))))));refine Was.cons (We.v rfl (Was.cons (We.c (Was.nil ⟨_,_,_,_,_,rfl,rfl,er,?_⟩))));refine Was.cons (We.v rfl (Was.nil (WF.box R_ (WA.val ?_ (by trivial)) rfl rfl rfl (by trivial))));refine Ws.seq (Ws.For (Wi.R1 (We.B (Was.cons (We.c (Was.cons (We.B (Was.cons (We.B (Was.cons (We.v rfl (Was.nil (WB.P5 (enc:=Dat.int) (xs:=ns) ?_ rfl)))))))))))));refine Was.cons (We.c (Was.nil (WB.min2 ?_ rfl)));refine Was.nil (WB.max2 ?_ rfl)
 generalize hT:(if (if (12:Int)<(ns.length:Int) then (12:Int) else (ns.length:Int))>1 then (if (12:Int)<(ns.length:Int) then (12:Int) else (ns.length:Int)) else 1)=top
 have hb:top<=12/\1<=top:=by
  rw[<- hT];constructor
  ·split<;>split<;>omega
  ·split<;>omega
 refine fB.mk ⟨?_,by unfold BIG;omega⟩;refine Ws.inv (fun i:Nat=>Dat.int (0+(i:Nat))) _ _ (SR top.toNat) _ _ _ _ _ (fun p q ρ=>∃c1 c5 c6 c7 c8 c9 c10:Cell,ρ=[.sh (.lst (ns.map Dat.int)),c1,.sh (.int n),.sh (.int k),.sh (aY n k K),c5,c6,c7,c8,c9,c10]) ⟨_,_,_,_,_,_,_,rfl⟩ ?_ ?_
 ·rintro p i q ρ e ⟨c1,c5,c6,c7,c8,c9,c10,rfl⟩;have hi:i<top.toNat:=TX.mp (by rw[e];simp);refine Dm.ff rfl (by trivial) ?_;exact IZ x y z hne ns _ (by omega) (by omega) n k (by omega) (by omega) k1 k6 K net (by omega) _ _ _ _ _ _ fun _ _ _ _ _ _=>⟨_,_,_,_,_,_,_,rfl⟩
 ·rintro ρ ⟨c1,c5,c6,c7,c8,c9,c10,rfl⟩;obtain⟨mss,ec⟩:=zy (n:=n) (k:=k) (j:=k) (by omega) (by omega) k1 k6 k1 (Sz _) net 0;refine Ws.R (We.e2 (We.F (Was.cons (We.v rfl (Was.cons (We.v rfl (Was.nil (WF.box (ds:=[aY n k K,.int k]) ec ?_ rfl rfl rfl rfl))))))));refine We.F (Was.cons (We.v rfl (Was.cons (We.v rfl (Was.cons (We.c (Was.nil (WF.box ec ?_ rfl rfl rfl rfl))))))));exact Wg2.MY (IY mss) (IX mss) rfl rfl rfl
end
end P
set_option maxHeartbeats 4000000
namespace Q
open PySem L2 Br Dm P
noncomputable def top(i:Nat):Stmt:=PySem.Challenge.pw_sinceply_k37_times_refused.main.body.getD i (.Pass ⟨0,0,0,0⟩)
structure Txt(mg:Str->Option Value)(K:gV)(base:Heap)(zA zB zC zD zF zG zH zI zJ zK qQ qR qS qT qU qV qW qX qY oR qZ q_ rj rm rq rD oS mU rE jf rF jV rG mV rH rJ rK rL rM rN rO rP rQ rR aq aF aE aN bw bC:Addr)(rS rT rU rV rW rX rY rZ r8 r9 ku kB kC kD kE kF kG kH kI jh kJ kK kL kM kO kP ji ic kQ jl kR gB kT ig kU kW kX kY kZ k7 k8 k9 k_ nK:FuncData)(lg:Tok):Prop where
 cC:mg "NoLayers" = some (.ref aq)
 fT:mg "NoNet" = some (.ref aF)
 d_:mg "NoPair" = some (.ref aE)
 cD:mg "NoPlaces" = some (.ref aN)
 ee:mg "NoTies" = some (.ref bw)
 lq:mg "PlyError" = some (.ref bC)
 Ci:Va "NoNet" aF bmV "ValueError.__new__" mg base
 bH:oj K aF
 vz:Va "NoLayers" aq bmV "ValueError.__new__" mg base
 aP:oj K aq
 zL:Va "NoPair" aE bmV "ValueError.__new__" mg base
 bq:oj K aE
 cE:SO K (.ref aq) (.type "ValueError")=some true
 dw:SO K (.ref aF) (.type "ValueError")=some true
 cX:SO K (.ref aE) (.type "ValueError")=some true
 jm:PySem.W.l_ K aq bC
 mW:PySem.W.l_ K aF bC
 lu:PySem.W.l_ K aE bC
 cY:SO K (.ref aq) (.ref aq)=some true
 ez:SO K (.ref aq) (.ref aF)=some false
 dP:SO K (.ref aq) (.ref aE)=some false
 eE:SO K (.ref aF) (.ref aq)=some false
 gh:SO K (.ref aF) (.ref aF)=some true
 fL:SO K (.ref aF) (.ref aE)=some false
 dQ:SO K (.ref aE) (.ref aq)=some false
 fM:SO K (.ref aE) (.ref aF)=some false
 e7:SO K (.ref aE) (.ref aE)=some true
 bR:Uo K (.ref aq) (([aN,bw]:List Addr).map S4)=some false
 b_:Uo K (.ref aF) (([aN,bw]:List Addr).map S4)=some false
 b4:Uo K (.ref aE) (([aN,bw]:List Addr).map S4)=some false
 bS:mg "ValueError" = none
 Kd:mg "all" = none
 M8:mg "bool" = none
 M9:mg "dict" = none
 oU:mg "enumerate" = none
 Ke:mg "int" = none
 ah:mg "isinstance" = none
 jW:mg "len" = none
 vA:mg "list" = none
 Fc:mg "max" = none
 AO:mg "min" = none
 dN:mg "range" = none
 r_:mg "reversed" = none
 Fe:mg "sorted" = none
 mX:mg "tuple" = none
 Qq:mg "zip" = none
 sd:∃t,mg "MOST_TIES" = some (.int 60 t)
 Sa:mg "steps_of" = some (.ref zA)
 Sb:mg "free_steps" = some (.ref zB)
 Sd:mg "led_steps" = some (.ref zC)
 Qs:mg "shortest_ways" = some (.ref zD)
 Se:mg "lead_along" = some (.ref zF)
 Sf:mg "parted" = some (.ref zG)
 I0:mg "ways_apart" = some (.ref zH)
 M_:mg "hang_often" = some (.ref zI)
 Sg:mg "is_whole" = some (.ref zJ)
 Cj:mg "is_within" = some (.ref zK)
 Qu:mg "is_places" = some (.ref qQ)
 AQ:mg "is_place" = some (.ref qR)
 Kf:mg "is_layers" = some (.ref qS)
 Qv:mg "is_moment" = some (.ref qT)
 Qw:mg "is_tie_either_way" = some (.ref qU)
 Qy:mg "is_tie" = some (.ref qV)
 Qz:mg "is_rising" = some (.ref qW)
 Kg:mg "is_pair" = some (.ref qX)
 QA:mg "look_at_layers" = some (.ref qY)
 Kh:mg "look_at_pair" = some (.ref oR)
 QB:mg "merged" = some (.ref qZ)
 QC:mg "least_layer" = some (.ref q_)
 Kl:mg "layered" = some (.ref rj)
 QD:mg "is_record" = some (.ref rm)
 Ff:mg "since" = some (.ref rq)
 Km:mg "is_net" = some (.ref rD)
 Fg:mg "look_at_net" = some (.ref oS)
 jX:mg "look_at_net_layers" = some (.ref mU)
 QE:mg "net_of" = some (.ref rE)
 xC:mg "classes" = some (.ref jf)
 Kn:mg "latest" = some (.ref rF)
 AR:mg "when" = some (.ref jV)
 QF:mg "youngest_link" = some (.ref rG)
 Fi:mg "links" = some (.ref mV)
 Fj:mg "_law_pool" = some (.ref rH)
 fF:mg "_law_take" = some (.ref rJ)
 QG:mg "_law_many" = some (.ref rK)
 QH:mg "_law_record" = some (.ref rL)
 Ko:mg "_law_odd" = some (.ref rM)
 QI:mg "_law_no_net" = some (.ref rN)
 xD:mg "_law_refused" = some (.ref rO)
 QJ:mg "_law_pair" = some (.ref rP)
 QK:mg "_law_no_layers" = some (.ref rQ)
 Sm:mg "law" = some (.ref rR)
 QL:Fun K "steps_of" "steps_of" (top 3) zA rS
 QM:Fun K "free_steps" "free_steps" (top 4) zB rT
 QN:Fun K "led_steps" "led_steps" (top 5) zC rU
 Na:Fun K "shortest_ways" "shortest_ways" (top 6) zD rV
 QO:Fun K "lead_along" "lead_along" (top 7) zF rW
 Nb:Binds K rU ["steps","heads"] []
 I_:Binds K rV ["steps","a"] []
 QS:Fun K "parted" "parted" (top 8) zG rX
 Nc:Binds K rS ["n","ties"] []
 Nd:Binds K rT ["steps","heads"] []
 Nf:Binds K rW ["heads","way"] []
 Ng:Binds K rX ["steps","heads","a","b","count"] []
 Fo:Fun K "ways_apart" "ways_apart" (top 1) zH rY
 Ck:Binds K rY ["n","ties","a","b","most"] []
 Ja:Fun K "hang_often" "hang_often" (top 2) zI rZ
 QT:Fun K "is_whole" "is_whole" (top 17) zJ r8
 Nh:Binds K r8 ["thing"] []
 zM:Fun K "is_within" "is_within" (top 18) zK r9
 xE:Binds K r9 ["thing","low","high"] []
 Kp:Fun K "is_places" "is_places" (top 19) qQ ku
 xF:Fun K "is_place" "is_place" (top 20) qR kB
 Fp:Fun K "is_layers" "is_layers" (top 21) qS kC
 Kq:Fun K "is_moment" "is_moment" (top 22) qT kD
 ur:Binds K kB ["n","thing"] []
 Fq:Binds K kD ["thing"] []
 Kr:Fun K "is_tie_either_way" "is_tie_either_way" (top 23) qU kE
 Ft:Binds K kE ["n","thing"] []
 Ks:Fun K "is_tie" "is_tie" (top 24) qV kF
 Ku:Fun K "is_rising" "is_rising" (top 25) qW kG
 Fv:Fun K "is_pair" "is_pair" (top 26) qX kH
 AS:Binds K kC ["thing"] []
 Kv:Fun K "look_at_layers" "look_at_layers" (top 27) qY kI
 AU:Binds K kH ["n","a","b"] []
 AV:Fun K "look_at_pair" "look_at_pair" (top 28) oR jh
 Kw:Fun K "merged" "merged" (top 30) qZ kJ
 Ky:Fun K "least_layer" "least_layer" (top 33) q_ kK
 Fw:Binds K kI ["k"] []
 Fx:Binds K kJ ["groups","a","b"] []
 Fy:Binds K kK ["layers","a","b"] []
 Fz:Fun K "layered" "layered" (top 32) rj kL
 FA:Binds K ku ["thing"] []
 FD:Binds K kF ["n","thing"] []
 FF:Binds K kG ["things"] []
 Kz:Fun K "is_record" "is_record" (top 36) rm kM
 AW:Fun K "since" "since" (top 37) rq kO
 AX:Binds K kL ["n","record","k"] []
 FG:Binds K kM ["n","thing"] []
 FH:Fun K "is_net" "is_net" (top 39) rD kP
 AY:Binds K kP ["thing"] []
 xG:Fun K "look_at_net" "look_at_net" (top 40) oS ji
 xH:Binds K ji ["thing"] []
 gP:Fun K "look_at_net_layers" "look_at_net_layers" (top 41) mU ic
 KA:Fun K "net_of" "net_of" (top 42) rE kQ
 FJ:Binds K rZ ["n","ties","a","b","times"] []
 xJ:Binds K kO ["record","t"] []
 iE:Binds K ic ["net","j"] []
 jY:D4 K "classes" "classes" (top 44) jf jl
 FL:Fun K "latest" "latest" (top 46) rF kR
 AZ:Binds K jh ["n","a","b"] []
 A0:Binds K kR ["n","ties","a","b","j"] []
 oV:Fun K "when" "when" (top 45) jV gB
 KC:Fun K "youngest_link" "youngest_link" (top 49) rG kT
 FO:Binds K kT ["net","j","place"] []
 uu:Fun K "links" "links" (top 48) mV ig
 A1:Fun K "_law_pool" "_law_pool" (top 51) rH kU
 eU:Fun K "_law_take" "_law_take" (top 52) rJ kW
 eG:Binds K kW ["pool","many"] []
 KD:Fun K "_law_many" "_law_many" (top 53) rK kX
 KG:Fun K "_law_record" "_law_record" (top 54) rL kY
 FP:Fun K "_law_odd" "_law_odd" (top 57) rM kZ
 KH:Fun K "_law_no_net" "_law_no_net" (top 58) rN k7
 FQ:Binds K jl ["net","j","t"] []
 nM:Binds K jl ["net","j","t"] [.int 0 lg]
 uv:Binds K gB ["net","a","b","j"] []
 xK:Binds K ig ["net","j"] []
 uw:Fun K "_law_refused" "_law_refused" (top 59) rO k8
 A2:Binds K kZ ["pool"] []
 KI:Fun K "_law_pair" "_law_pair" (top 60) rP k9
 KJ:Fun K "_law_no_layers" "_law_no_layers" (top 61) rQ k_
 FU:Binds K kQ ["n","record","k"] []
 xM:Binds K kU ["script","k"] []
 FW:Binds K kX ["pool"] []
 FY:Binds K kY ["pool","n","most"] []
 FZ:Binds K k7 ["pool","net"] []
 se:Binds K k8 ["way","net","a","b","j"] []
 F0:Binds K k9 ["pool","n"] []
 F1:Binds K k_ ["pool","k"] []
 QU:Fun K "law" "law" (top 62) rR nK
section
variable{P':Program}{w:World}{K:gV}{mg:Str->Option Value}{base:Heap}{zA zB zC zD zF zG zH zI zJ zK qQ qR qS qT qU qV qW qX qY oR qZ q_ rj rm rq rD oS mU rE jf rF jV rG mV rH rJ rK rL rM rN rO rP rQ rR aq aF aE aN bw bC:Addr}
variable{rS rT rU rV rW rX rY rZ r8 r9 ku kB kC kD kE kF kG kH kI jh kJ kK kL kM kO kP ji ic kQ jl kR gB kT ig kU kW kX kY kZ k7 k8 k9 k_ nK:FuncData}{lg:Tok}
theorem xN:aA ["n","ties","steps","moment","a","b"] ["n","ties"] (ai (top 3)):=fsc rfl rfl rfl rfl (by decide +kernel)
theorem Ni:(["n","ties","steps","moment","a","b","place"]:List Str).Nodup:=by decide +kernel
theorem QV:aA ["steps","heads"] ["steps","heads"] (ai (top 4)):=fsc rfl rfl rfl rfl (by decide +kernel)
theorem Nj:(["steps","heads","row"]:List Str).Nodup:=by decide +kernel
theorem Nk:(["steps","heads","row","step"]:List Str).Nodup:=by decide +kernel
theorem QW:aA ["steps","heads"] ["steps","heads"] (ai (top 5)):=fsc rfl rfl rfl rfl (by decide +kernel)
theorem Nl:(["steps","heads","row"]:List Str).Nodup:=by decide +kernel
theorem Nm:(["steps","heads","row","step"]:List Str).Nodup:=by decide +kernel
theorem xO:aA ["steps","a","ways","pending","place","step"] ["steps","a"] (ai (top 6)):=fsc rfl rfl rfl rfl (by decide +kernel)
theorem F2:aA ["heads","way","moment","place"] ["heads","way"] (ai (top 7)):=fsc rfl rfl rfl rfl (by decide +kernel)
theorem ux:aA ["steps","heads","a","b","count","left","ways","time","way","moment"] ["steps","heads","a","b","count"] (ai (top 8)):=fsc rfl rfl rfl rfl (by decide +kernel)
theorem Nn:(["steps","heads","a","b","count","left","ways","time","way","moment","step"]:List Str).Nodup:=by decide +kernel
theorem oW:aA ["n","ties","a","b","most","steps","heads","side","count","found"] ["n","ties","a","b","most"] (ai (top 1)):=fsc rfl rfl rfl rfl (by decide +kernel)
theorem QX:aA ["n","ties","a","b","times"] ["n","ties","a","b","times"] (ai (top 2)):=fsc rfl rfl rfl rfl (by decide +kernel)
theorem QY:aA ["thing"] ["thing"] (ai (top 17)):=fsc rfl rfl rfl rfl (by decide +kernel)
theorem QZ:aA ["thing","low","high"] ["thing","low","high"] (ai (top 18)):=fsc rfl rfl rfl rfl (by decide +kernel)
theorem Np:aA ["thing"] ["thing"] (ai (top 19)):=fsc rfl rfl rfl rfl (by decide +kernel)
theorem Nq:aA ["n","thing"] ["n","thing"] (ai (top 20)):=fsc rfl rfl rfl rfl (by decide +kernel)
theorem Nr:aA ["thing"] ["thing"] (ai (top 21)):=fsc rfl rfl rfl rfl (by decide +kernel)
theorem Nt:aA ["thing"] ["thing"] (ai (top 22)):=fsc rfl rfl rfl rfl (by decide +kernel)
theorem Nu:aA ["n","thing"] ["n","thing"] (ai (top 23)):=fsc rfl rfl rfl rfl (by decide +kernel)
theorem Nv:aA ["n","thing"] ["n","thing"] (ai (top 24)):=fsc rfl rfl rfl rfl (by decide +kernel)
theorem Ny:aA ["things"] ["things"] (ai (top 25)):=fsc rfl rfl rfl rfl (by decide +kernel)
theorem Jb:(["things","at"]:List Str).Nodup:=by decide +kernel
theorem Nz:aA ["n","a","b"] ["n","a","b"] (ai (top 26)):=fsc rfl rfl rfl rfl (by decide +kernel)
theorem NB:aA ["k"] ["k"] (ai (top 27)):=fsc rfl rfl rfl rfl (by decide +kernel)
theorem F3:aA ["n","a","b"] ["n","a","b"] (ai (top 28)):=fsc rfl rfl rfl rfl (by decide +kernel)
theorem NC:aA ["groups","a","b"] ["groups","a","b"] (ai (top 30)):=fsc rfl rfl rfl rfl (by decide +kernel)
theorem Jc:(["groups","a","b","group"]:List Str).Nodup:=by decide +kernel
theorem zN:aA ["layers","a","b","at","groups"] ["layers","a","b"] (ai (top 33)):=fsc rfl rfl rfl rfl (by decide +kernel)
theorem lz:aA ["n","record","k","layers","numbers","moment","a","b","number"] ["n","record","k"] (ai (top 32)):=fsc rfl rfl rfl rfl (by decide +kernel)
theorem Jd:(["n","record","k","layers","numbers","moment","a","b","number","layer"]:List Str).Nodup:=by decide +kernel
theorem ND:aA ["n","thing"] ["n","thing"] (ai (top 36)):=fsc rfl rfl rfl rfl (by decide +kernel)
theorem Je:(["n","thing","tie"]:List Str).Nodup:=by decide +kernel
theorem Jf:(["n","thing","tie"]:List Str).Nodup:=by decide +kernel
theorem NF:aA ["record","t"] ["record","t"] (ai (top 37)):=fsc rfl rfl rfl rfl (by decide +kernel)
theorem Jg:(["record","t","tie"]:List Str).Nodup:=by decide +kernel
theorem NG:aA ["thing"] ["thing"] (ai (top 39)):=fsc rfl rfl rfl rfl (by decide +kernel)
theorem F4:aA ["thing"] ["thing"] (ai (top 40)):=fsc rfl rfl rfl rfl (by decide +kernel)
theorem zO:aA ["net","j"] ["net","j"] (ai (top 41)):=fsc rfl rfl rfl rfl (by decide +kernel)
theorem F5:aA ["n","record","k","numbers"] ["n","record","k"] (ai (top 42)):=fsc rfl rfl rfl rfl (by decide +kernel)
theorem A3:(["n","record","k","numbers","tie","number"]:List Str).Nodup:=by decide +kernel
theorem nN:aA ["net","j","t","ties","members","place","homes"] ["net","j","t"] (ai (top 44)):=fsc rfl rfl rfl rfl (by decide +kernel)
theorem Jh:(["net","j","t","ties","members","place","homes","first"]:List Str).Nodup:=by decide +kernel
theorem Ji:(["net","j","t","ties","members","place","homes","places"]:List Str).Nodup:=by decide +kernel
theorem nQ:aA ["n","ties","a","b","j","low","high","middle"] ["n","ties","a","b","j"] (ai (top 46)):=fsc rfl rfl rfl rfl (by decide +kernel)
theorem lA:aA ["net","a","b","j","t","ways","side"] ["net","a","b","j"] (ai (top 45)):=fsc rfl rfl rfl rfl (by decide +kernel)
theorem zP:aA ["net","j","place","moments","found"] ["net","j","place"] (ai (top 49)):=fsc rfl rfl rfl rfl (by decide +kernel)
theorem Jj:(["net","j","place","moments","found","other"]:List Str).Nodup:=by decide +kernel
theorem A4:(["net","j","place","moments","found","other","moment"]:List Str).Nodup:=by decide +kernel
theorem sj:aA ["net","j","told","place"] ["net","j"] (ai (top 48)):=fsc rfl rfl rfl rfl (by decide +kernel)
theorem ir:aA ["script","k","cell","number","found","turn"] ["script","k"] (ai (top 51)):=fsc rfl rfl rfl rfl (by decide +kernel)
theorem F6:aA ["pool","many","digit"] ["pool","many"] (ai (top 52)):=fsc rfl rfl rfl rfl (by decide +kernel)
theorem NH:aA ["pool"] ["pool"] (ai (top 53)):=fsc rfl rfl rfl rfl (by decide +kernel)
theorem eK:aA ["pool","n","most","many","kind","step","times","way","moment","found","k","one","other"] ["pool","n","most"] (ai (top 54)):=fsc rfl rfl rfl rfl (by decide +kernel)
theorem F7:aA ["pool","some"] ["pool"] (ai (top 57)):=fsc rfl rfl rfl rfl (by decide +kernel)
theorem lB:aA ["pool","net","n","k","ties","some"] ["pool","net"] (ai (top 58)):=fsc rfl rfl rfl rfl (by decide +kernel)
theorem lC:aA ["way","net","a","b","j","e","others"] ["way","net","a","b","j"] (ai (top 59)):=fsc rfl rfl rfl rfl (by decide +kernel)
theorem zQ:aA ["pool","n","odd","place"] ["pool","n"] (ai (top 60)):=fsc rfl rfl rfl rfl (by decide +kernel)
theorem F8:aA ["pool","k","odd"] ["pool","k"] (ai (top 61)):=fsc rfl rfl rfl rfl (by decide +kernel)
theorem fN:aA ["script","pool","n","k","net","at","a","b","j","bad","way"] ["script"] (ai (top 62)):=fsc rfl rfl rfl rfl (by decide +kernel)
variable(T:Txt mg K base zA zB zC zD zF zG zH zI zJ zK qQ qR qS qT qU qV qW qX qY oR qZ q_ rj rm rq rD oS mU rE jf rF jV rG mV rH rJ rK rL rM rN rO rP rQ rR aq aF aE aN bw bC rS rT rU rV rW rX rY rZ r8 r9 ku kB kC kD kE kF kG kH kI jh kJ kK kL kM kO kP ji ic kQ jl kR gB kT ig kU kW kX kY kZ k7 k8 k9 k_ nK lg)
include T
theorem Q0 :
  aV P' w K mg base CX0 1 zA rS ["n","ties"] (spD Iw):=by
 refine T.QL.ok xN (fun vs H Q E h=>aT h) (fun cdv A outer s H vs Q E hr h=>?_);exact ⟨_,(Ms 2 ["n","ties","steps","moment","a","b"] ["place"] xN.nd (c_n 6 Ni rfl rfl) (uT rfl T.dN (aa (d_v 0) af)) (PD Tp rfl (i_S (d_v 1)) (g_t rfl (bQ 3 xN.nd (bQ 4 xN.nd (bQ 5 xN.nd iZ))))
  (JN (RK (sO hr (d_v 4) (d_v 5)) (Mr (JO (d_v 4) (bF (aa (d_v 3) (aa (d_v 5) af))))
  (JN (JO (d_v 5) (bF (aa (d_v 3) (aa (d_v 4) af)))))) PB)))
  (ay (s_r (d_v 2)))),cO (n:=2) (m:=4) rfl h⟩
theorem Q2 :
  aV P' w K mg base CX0 1 zB rT ["steps","heads"] (spD Er):=by
 refine T.QM.ok QV (fun vs H Q E h=>aT h) (fun cdv A outer s H vs Q E hr h=>?_);exact⟨_,(ay (s_r (nU 0 ["steps","heads"] ["row"] (c_n 2 Nj rfl rfl) (d_v 0) (fun _ _ _ _ _=>gy) (fun _ _ _ _ _=>(nU 2 ["steps","heads","row"] ["step"] (c_n 3 Nk rfl rfl) (d_v 2) (fun _ _ _ _ _=>nv (sO hr (DO hr (d_v 1) (bh (d_v 3) d_i)) (bh (d_v 3) d_i))) (fun _ _ _ _ _=>(d_v 3))))))),cO (n:=2) (m:=0) rfl h⟩
theorem Q3 :
  aV P' w K mg base CX0 1 zC rU ["steps","heads"] (spD Es):=by
 refine T.QN.ok QW (fun vs H Q E h=>aT h) (fun cdv A outer s H vs Q E hr h=>?_);exact⟨_,(ay (s_r (nU 0 ["steps","heads"] ["row"] (c_n 2 Nl rfl rfl) (d_v 0) (fun _ _ _ _ _=>gy) (fun _ _ _ _ _=>(nU 2 ["steps","heads","row"] ["step"] (c_n 3 Nm rfl rfl) (d_v 2) (fun _ _ _ _ _=>nv (o6 hr (DO hr (d_v 1) (bh (d_v 3) d_i)) (bh (d_v 3) d_i))) (fun _ _ _ _ _=>(d_v 3))))))),cO (n:=2) (m:=0) rfl h⟩
theorem KL :
  aV P' w K mg base CX0 1 zD rV ["steps","a"] (spD wR):=by
 refine T.Na.ok xO (fun vs H Q E h=>aT h) (fun cdv A outer s H vs Q E hr h=>?_);exact ⟨_,(ak (s_a 2 xO.nd (RH (d_v 1) (bg af)))
  (ak (s_a 3 xO.nd (bg (aa (d_v 1) af)))
  (ak (LR 100 Tp (RJ (d_v 3))
  (ak (s_a 4 xO.nd (HK 3 d_i))
  (ay (i0 Tp rfl (i_S (bh (d_v 0) (d_v 4))) (g_n 5 xO.nd)
  (ay (eO (Mj hr (bh (d_v 5) d_i) (d_v 2)) (ak (DP 2 hr (bh (d_v 5) d_i) (cK (Mi hr (d_v 2) (d_v 4)) (bg (aa (d_v 5) af))))
  (ay (Ai 3 (bh (d_v 5) d_i)))) cQ))))))
  (ay (s_r (d_v 2)))))),cO (n:=2) (m:=4) rfl h⟩
theorem Q4 :
  aV P' w K mg base CX0 1 zF rW ["heads","way"] (spM Et):=by
 refine T.QO.ok F2 (fun vs H Q E h=>fR h) (fun cdv A outer s H vs Q E hr h=>?_);exact ⟨_,(ay (i0 Tp rfl (i_S (d_v 1)) (g_t rfl (bQ 2 F2.nd (bQ 3 F2.nd iZ)))
  (ay (eO (JI hr (d_v 2) (d_v 0)) (ay (s_e (Ea 0 (d_v 2)))) (ay (DP 0 hr (d_v 2) (d_v 3))))))),nV (n:=2) (m:=2) rfl h⟩
theorem Q5 :
  aV P' w K mg base CX0 2 zG rX ["steps","heads","a","b","count"] (spD B0):=by
 refine T.QS.ok ux (fun vs H Q E h=>aT h) (fun cdv A outer s H vs Q E hr h=>?_);exact ⟨_,(ak (s_a 5 ux.nd (Mv rfl T.M9 (aa (d_v 1) af)))
  (ak (s_a 6 ux.nd (bg af))
  (ak (i0 Tp rfl (uT rfl T.dN (aa (d_v 4) af)) (g_n 7 ux.nd)
  (ak (Hu 8 ["steps","heads","a","b","count","left","ways","time","way","moment"] ["step"] ux.nd (c_n 10 Nn rfl rfl) (i_S (Mi hr (aB (KL T) (Br.hm hr) rfl T.Qs T.Na.kp T.I_ (aa (qu (Q3 T) (Br.hm hr) rfl T.Sd T.QN.kp T.Nb (aa (d_v 0) (aa (d_v 5) af))) (aa (d_v 2) af))) (d_v 3))) (fun _ _ _ _ _=>gy) (fun _ _ _ _ _=>(bh (d_v 10) d_i)))
  (ak (i0 Tp rfl (i_S (d_v 8)) (g_n 9 ux.nd)
  (ay (s_e (Ea 5 (d_v 9)))))
  (ay (Ai 6 (d_v 8))))))
  (ay (s_r (d_v 6)))))),cO (n:=5) (m:=5) rfl h⟩
theorem A5 :
  aV P' w K mg base CX0 3 zH rY ["n","ties","a","b","most"] (spD wU):=by
 refine T.Fo.ok oW (fun vs H Q E h=>aT h) (fun cdv A outer s H vs Q E hr h=>?_);exact ⟨_,(ak (s_a 5 oW.nd (aB (Q0 T) (Br.hm hr) rfl T.Sa T.QL.kp T.Nc (aa (d_v 0) (aa (d_v 1) af))))
  (ak (s_a 6 oW.nd RG)
  (ak (s_a 7 oW.nd d_n)
  (ak (s_a 8 oW.nd d_i)
  (ak (LR 100 Tp (t_w (w_and (OZ (d_v 8) (d_v 4)) (LQ (JJ (d_v 7) d_n))))
  (ak (s_a 9 oW.nd (aB (KL T) (Br.hm hr) rfl T.Qs T.Na.kp T.I_ (aa (qu (Q2 T) (Br.hm hr) rfl T.Sb T.QM.kp T.Nd (aa (d_v 5) (aa (d_v 6) af))) (aa (d_v 2) af))))
  (ay (eO (JI hr (d_v 3) (d_v 9)) (ak (s_e (bz (Q4 T) (Br.hm hr) rfl T.Se T.QO.kp T.Nf (aa (d_v 6) (aa (Mi hr (d_v 9) (d_v 3)) af))))
  (ay (s_a 8 oW.nd (cK (d_v 8) d_i)))) (ay (s_a 7 oW.nd (uS rfl T.mX (aa (H_ rfl rfl T.Fe (aa (d_v 9) af)) af))))))))
  (ay (s_r (bF (aa (qu (Q5 T) (Br.hm hr) rfl T.Sf T.QS.kp T.Ng (@aa _ _ _ _ _ (d_v 5) (@aa _ _ _ _ _ (d_v 6) (@aa _ _ _ _ _ (d_v 2) (@aa _ _ _ _ _ (d_v 3) (@aa _ _ _ _ _ (d_v 8) af rfl) rfl) rfl) rfl) rfl)) (aa (d_v 7) af)))))))))),cO (n:=5) (m:=5) rfl h⟩
theorem F9 :
  aV P' w K mg base CX0 4 zI rZ ["n","ties","a","b","times"] (spD iJ):=by
 refine T.Ja.ok QX (fun vs H Q E h=>aT h) (fun cdv A outer s H vs Q E hr h=>?_);exact⟨_,(ay (s_r (Pf (bh (aB (A5 T) (Br.hm hr) rfl T.I0 T.Fo.kp T.Ck (@aa _ _ _ _ _ (d_v 0) (@aa _ _ _ _ _ (d_v 1) (@aa _ _ _ _ _ (d_v 2) (@aa _ _ _ _ _ (d_v 3) (@aa _ _ _ _ _ (d_v 4) af rfl) rfl) rfl) rfl) rfl)) d_i) d_n))),cO (n:=5) (m:=0) rfl h⟩
theorem Q6 :
  aV P' w K mg base CX0 1 zJ r8 ["thing"] (spD Eu):=by
 refine T.QT.ok QY (fun vs H Q E h=>aT h) (fun cdv A outer s H vs Q E hr h=>?_);exact⟨_,(ay (s_r (qc (wj Hq (by rfl) rfl T.Ke rfl T.ah (d_v 0)) (nT (Ag (wj Dj (by rfl) rfl T.M8 rfl T.ah (d_v 0))))))),cO (n:=1) (m:=0) rfl h⟩
theorem uy :
  aV P' w K mg base CX0 2 zK r9 ["thing","low","high"] (spD f_):=by
 refine T.zM.ok QZ (fun vs H Q E h=>aT h) (fun cdv A outer s H vs Q E hr h=>?_);exact⟨_,(ay (s_r (qc (aB (Q6 T) (Br.hm hr) rfl T.Sg T.QT.kp T.Nh (aa (d_v 0) af)) (nT (Ht CD C_ CD C_ (d_v 1) (d_v 0) (d_v 2)))))),cO (n:=3) (m:=0) rfl h⟩
theorem NI :
  aV P' w K mg base CX0 3 qQ ku ["thing"] (spD qA):=by
 refine T.Kp.ok Np (fun vs H Q E h=>aT h) (fun cdv A outer s H vs Q E hr h=>?_);exact⟨_,(ay (s_r (aB (uy T) (Br.hm hr) rfl T.Cj T.zM.kp T.xE (aa (d_v 0) (aa d_i (aa d_i af)))))),cO (n:=1) (m:=0) rfl h⟩
theorem vC :
  aV P' w K mg base CX0 3 qR kB ["n","thing"] (spD fO):=by
 refine T.xF.ok Nq (fun vs H Q E h=>aT h) (fun cdv A outer s H vs Q E hr h=>?_);exact⟨_,(ay (s_r (aB (uy T) (Br.hm hr) rfl T.Cj T.zM.kp T.xE (aa (d_v 1) (aa d_i (aa (iX (d_v 0) d_i) af)))))),cO (n:=2) (m:=0) rfl h⟩
theorem F_ :
  aV P' w K mg base CX0 3 qS kC ["thing"] (spD ja):=by
 refine T.Fp.ok Nr (fun vs H Q E h=>aT h) (fun cdv A outer s H vs Q E hr h=>?_);exact⟨_,(ay (s_r (aB (uy T) (Br.hm hr) rfl T.Cj T.zM.kp T.xE (aa (d_v 0) (aa d_i (aa d_i af)))))),cO (n:=1) (m:=0) rfl h⟩
theorem NJ :
  aV P' w K mg base CX0 3 qT kD ["thing"] (spD oA):=by
 refine T.Kq.ok Nt (fun vs H Q E h=>aT h) (fun cdv A outer s H vs Q E hr h=>?_);exact⟨_,(ay (s_r (aB (uy T) (Br.hm hr) rfl T.Cj T.zM.kp T.xE (aa (d_v 0) (aa d_i (aa (iY d_i d_i) af)))))),cO (n:=1) (m:=0) rfl h⟩
theorem NK :
  aV P' w K mg base CX0 4 qU kE ["n","thing"] (spD mF):=by
 refine T.Kr.ok Nu (fun vs H Q E h=>aT h) (fun cdv A outer s H vs Q E hr h=>?_);exact ⟨_,(ak (eO (t_w (w_or (fY (fu (wj kit_tuple (by rfl) rfl T.mX rfl T.ah (d_v 1)))) (Ah (sO hr (jR rfl T.jW (aa (d_v 1) af)) d_i)))) (ay (s_r d_b)) cQ)
  (ay (s_r (qc (aB (NJ T) (Br.hm hr) rfl T.Qv T.Kq.kp T.Fq (aa (bh (d_v 1) d_i) af)) (qc (aB (vC T) (Br.hm hr) rfl T.AQ T.xF.kp T.ur (aa (d_v 0) (aa (bh (d_v 1) d_i) af))) (nT (aB (vC T) (Br.hm hr) rfl T.AQ T.xF.kp T.ur (aa (d_v 0) (aa (bh (d_v 1) d_i) af))))))))),cO (n:=2) (m:=0) rfl h⟩
theorem NL :
  aV P' w K mg base CX0 5 qV kF ["n","thing"] (spD qB):=by
 refine T.Ks.ok Nv (fun vs H Q E h=>aT h) (fun cdv A outer s H vs Q E hr h=>?_);exact⟨_,(ay (s_r (qc (aB (NK T) (Br.hm hr) rfl T.Qw T.Kr.kp T.Ft (aa (d_v 0) (aa (d_v 1) af))) (nT (Ry (bh (d_v 1) d_i) (bh (d_v 1) d_i)))))),cO (n:=2) (m:=0) rfl h⟩
theorem NN :
  aV P' w K mg base CX0 1 qW kG ["things"] (spD AD):=by
 refine T.Ku.ok Ny (fun vs H Q E h=>aT h) (fun cdv A outer s H vs Q E hr h=>?_);exact⟨_,(ay (s_r (JF rfl rfl T.Kd (aa (LX ["things"] ["at"] (c_n 1 Jb rfl rfl) (O4 rfl T.dN (aa d_i (aa (jR rfl T.jW (aa (d_v 0) af)) af))) (fun _ _ _ _ _=>gy) (fun _ _ _ _ _=>(Rx (bh (d_v 0) (iX (d_v 1) d_i)) (bh (d_v 0) (d_v 1))))) af)))),cO (n:=1) (m:=0) rfl h⟩
theorem Ga :
  aV P' w K mg base CX0 4 qX kH ["n","a","b"] (spD eT):=by
 refine T.Fv.ok Nz (fun vs H Q E h=>aT h) (fun cdv A outer s H vs Q E hr h=>?_);exact⟨_,(ay (s_r (qc (aB (vC T) (Br.hm hr) rfl T.AQ T.xF.kp T.ur (aa (d_v 0) (aa (d_v 1) af))) (qc (aB (vC T) (Br.hm hr) rfl T.AQ T.xF.kp T.ur (aa (d_v 0) (aa (d_v 2) af))) (nT (Rw hr (d_v 1) (d_v 2))))))),cO (n:=3) (m:=0) rfl h⟩
theorem NO :
  aV P' w K mg base CX0 4 qY kI ["k"] (spD AE):=by
 refine T.Kv.ok NB (fun vs H Q E h=>aT h) (fun cdv A outer s H vs Q E hr h=>?_);exact⟨_,(ay (eO (fY (fu (aB (F_ T) (Br.hm hr) rfl T.Kf T.Fp.kp T.AS (aa (d_v 0) af)))) (ay pB) cQ)),cO (n:=1) (m:=0) rfl h⟩
theorem NP :
  aV P' w K mg base CX0 5 oR jh ["n","a","b"] (spD Ew):=by
 refine T.AV.ok F3 (fun vs H Q E h=>aT h) (fun cdv A outer s H vs Q E hr h=>?_);exact⟨_,(ay (eO (fY (fu (aB (Ga T) (Br.hm hr) rfl T.Kg T.Fv.kp T.AU (aa (d_v 0) (aa (d_v 1) (aa (d_v 2) af)))))) (ay pB) cQ)),cO (n:=3) (m:=0) rfl h⟩
theorem gQ :
  aV P' w K mg base (CXE P' w aE) 5 oR jh ["n","a","b"] (spX aE cB):=by
 exact okY (n:=3) (m:=0) T.AV F3 rfl rfl (fun cdv A outer s H E hr=>(cu (u7 (fY (fu (aB (Ga T) (Br.hm hr) rfl T.Kg T.Fv.kp T.AU (aa (d_v 0) (aa (d_v 1) (aa (d_v 2) af)))))) (cu (y_x (x_raise T.zL UK rfl))) Eg)))
theorem NQ :
  aV P' w K mg base CX0 1 qZ kJ ["groups","a","b"] (spD AF):=by
 refine T.Kw.ok NC (fun vs H Q E h=>aT h) (fun cdv A outer s H vs Q E hr h=>?_);exact⟨_,(ay (s_r (nU 0 ["groups","a","b"] ["group"] (c_n 3 Jc rfl rfl) (d_v 0) (fun _ _ _ _ _=>gy) (fun _ _ _ _ _=>(O3 (o6 hr (d_v 3) (bh (d_v 0) (d_v 2))) (bh (d_v 0) (d_v 1)) (d_v 3)))))),cO (n:=3) (m:=0) rfl h⟩
theorem NR :
  aV P' w K mg base CX0 1 q_ kK ["layers","a","b"] (spD wV):=by
 refine T.Ky.ok zN (fun vs H Q E h=>aT h) (fun cdv A outer s H vs Q E hr h=>?_);exact ⟨_,(ak (i0 Tp rfl (Pc rfl T.oU (d_v 0)) (g_t rfl (bQ 3 zN.nd (bQ 4 zN.nd iZ)))
  (ay (eO (sO hr (bh (d_v 4) (d_v 1)) (bh (d_v 4) (d_v 2))) (ay (s_r (cK (d_v 3) d_i))) cQ)))
  (ay (s_r d_i))),cO (n:=3) (m:=2) rfl h⟩
theorem Gb :
  aV P' w K mg base CX0 5 rj kL ["n","record","k"] (spD ud):=by
 refine T.Fz.ok lz (fun vs H Q E h=>aT h) (fun cdv A outer s H vs Q E hr h=>?_);exact ⟨_,(ak (s_e (aB (NO T) (Br.hm hr) rfl T.QA T.Kv.kp T.Fw (aa (d_v 2) af)))
  (ak (Hu 3 ["n","record","k","layers","numbers","moment","a","b","number"] ["layer"] lz.nd (c_n 9 Jd rfl rfl) (uT rfl T.dN (aa (d_v 2) af)) (fun _ _ _ _ _=>gy) (fun _ _ _ _ _=>(L8 rfl rfl T.vA rfl T.dN (aa (d_v 0) af))))
  (ak (s_a 4 lz.nd (bg af))
  (ak (i0 Tp rfl (Pb rfl T.r_ (d_v 1)) (g_t rfl (bQ 5 lz.nd (bQ 6 lz.nd (bQ 7 lz.nd iZ))))
  (ak (s_a 8 lz.nd (aB (NR T) (Br.hm hr) rfl T.QC T.Ky.kp T.Fy (aa (d_v 3) (aa (d_v 6) (aa (d_v 7) af)))))
  (ak (eO (Dh (d_v 8) d_i) (ay (JE 3 (iX (d_v 8) d_i) (aB (NQ T) (Br.hm hr) rfl T.QB T.Kw.kp T.Fx (aa (bh (d_v 3) (iX (d_v 8) d_i)) (aa (d_v 6) (aa (d_v 7) af)))))) cQ)
  (ay (Ai 4 (d_v 8))))))
  (ay (s_r (Hz rfl rfl T.vA rfl T.r_ (d_v 4)))))))),cO (n:=3) (m:=6) rfl h⟩
theorem NT :
  aV P' w K mg base CX0 6 rm kM ["n","thing"] (spD jb):=by
 refine T.Kz.ok ND (fun vs H Q E h=>aT h) (fun cdv A outer s H vs Q E hr h=>?_);obtain⟨mY,xP⟩:=T.sd;exact ⟨_,(ak (eO (t_w (w_or (fY (fu (aB (NI T) (Br.hm hr) rfl T.Qu T.Kp.kp T.FA (aa (d_v 0) af)))) (w_or (fY (fu (wj Dl (by rfl) rfl T.vA rfl T.ah (d_v 1)))) (Ah (Dh (jR rfl T.jW (aa (d_v 1) af)) (d_g rfl xP)))))) (ay (s_r d_b)) cQ)
  (ak (eO (fY (fu (JF rfl rfl T.Kd (aa (nU 1 ["n","thing"] ["tie"] (c_n 2 Je rfl rfl) (d_v 1) (fun _ _ _ _ _=>gy) (fun _ _ _ _ _=>(aB (NL T) (Br.hm hr) rfl T.Qy T.Ks.kp T.FD (aa (d_v 0) (aa (d_v 2) af))))) af)))) (ay (s_r d_b)) cQ)
  (ay (s_r (aB (NN T) (Br.hm hr) rfl T.Qz T.Ku.kp T.FF (aa (nU 1 ["n","thing"] ["tie"] (c_n 2 Jf rfl rfl) (d_v 1) (fun _ _ _ _ _=>gy) (fun _ _ _ _ _=>(bh (d_v 2) d_i))) af)))))),cO (n:=2) (m:=0) rfl h⟩
theorem zR :
  aV P' w K mg base CX0 1 rq kO ["record","t"] (spD ue):=by
 refine T.AW.ok NF (fun vs H Q E h=>aT h) (fun cdv A outer s H vs Q E hr h=>?_);exact⟨_,(ay (s_r (nU 0 ["record","t"] ["tie"] (c_n 2 Jg rfl rfl) (d_v 0) (fun _ _ _ _ _=>nv (O0 (bh (d_v 2) d_i) (d_v 1))) (fun _ _ _ _ _=>(d_v 2))))),cO (n:=2) (m:=0) rfl h⟩
theorem Gd :
  aV P' w K mg base CX0 7 rD kP ["thing"] (spD cM):=by
 refine T.FH.ok NG (fun vs H Q E h=>aT h) (fun cdv A outer s H vs Q E hr h=>?_);exact ⟨_,(ak (eO (t_w (w_or (fY (fu (wj kit_tuple (by rfl) rfl T.mX rfl T.ah (d_v 0)))) (Ah (sO hr (jR rfl T.jW (aa (d_v 0) af)) d_i)))) (ay (s_r d_b)) cQ)
  (ak (eO (t_w (w_or (fY (fu (aB (F_ T) (Br.hm hr) rfl T.Kf T.Fp.kp T.AS (aa (bh (d_v 0) d_i) af)))) (Ah (fY (fu (aB (NT T) (Br.hm hr) rfl T.QD T.Kz.kp T.FG (aa (bh (d_v 0) d_i) (aa (bh (d_v 0) d_i) af)))))))) (ay (s_r d_b)) cQ)
  (ay (s_r (OY hr d_i (aB (Gb T) (Br.hm hr) rfl T.Kl T.Fz.kp T.AX (aa (bh (d_v 0) d_i) (aa (bh (d_v 0) d_i) (aa (bh (d_v 0) d_i) af))))))))),cO (n:=1) (m:=0) rfl h⟩
theorem Ge :
  aV P' w K mg base CX0 8 oS ji ["thing"] (spD oB):=by
 refine T.xG.ok F4 (fun vs H Q E h=>aT h) (fun cdv A outer s H vs Q E hr h=>?_);exact⟨_,(ay (eO (fY (fu (aB (Gd T) (Br.hm hr) rfl T.Km T.FH.kp T.AY (aa (d_v 0) af)))) (ay pB) cQ)),cO (n:=1) (m:=0) rfl h⟩
theorem iK :
  aV P' w K mg base (CXE P' w aF) 8 oS ji ["thing"] (spX aF b9):=by
 exact okY (n:=1) (m:=0) T.xG F4 rfl rfl (fun cdv A outer s H E hr=>(cu (u7 (fY (fu (aB (Gd T) (Br.hm hr) rfl T.Km T.FH.kp T.AY (aa (d_v 0) af)))) (cu (y_x (x_raise T.Ci UK rfl))) Eg)))
theorem vD :
  aV P' w K mg base CX0 9 mU ic ["net","j"] (spD jc):=by
 refine T.gP.ok zO (fun vs H Q E h=>aT h) (fun cdv A outer s H vs Q E hr h=>?_);exact ⟨_,(ak (s_e (aB (Ge T) (Br.hm hr) rfl T.Fg T.xG.kp T.xH (aa (d_v 0) af)))
  (ay (eO (fY (fu (aB (uy T) (Br.hm hr) rfl T.Cj T.zM.kp T.xE (aa (d_v 1) (aa d_i (aa (bh (d_v 0) d_i) af)))))) (ay pB) cQ))),cO (n:=2) (m:=0) rfl h⟩
theorem bO :
  aV P' w K mg base (CXE P' w aF) 9 mU ic ["net","j"] (spX aF aM):=by
 exact okY (n:=2) (m:=0) T.gP zO rfl rfl (fun cdv A outer s H E hr=>(cu (y_x (dO (x_call (iK T) (Br.hm hr) rfl T.Fg T.xG.kp T.xH n9 (aa (d_v 0) af))))))
theorem bE :
  aV P' w K mg base (CXE P' w aq) 9 mU ic ["net","j"] (spX aq aI):=by
 exact okY (n:=2) (m:=0) T.gP zO rfl rfl (fun cdv A outer s H E hr=>(JR (s_e (aB (Ge T) (Br.hm hr) rfl T.Fg T.xG.kp T.xH (aa (d_v 0) af))) (cu (u7 (fY (fu (aB (uy T) (Br.hm hr) rfl T.Cj T.zM.kp T.xE (aa (d_v 1) (aa d_i (aa (bh (d_v 0) d_i) af)))))) (cu (y_x (x_raise T.vz UK rfl))) Eg))))
theorem NU :
  aV P' w K mg base CX0 6 rE kQ ["n","record","k"] (spD AG):=by
 refine T.KA.ok F5 (fun vs H Q E h=>aT h) (fun cdv A outer s H vs Q E hr h=>?_);exact ⟨_,(ak (s_a 3 F5.nd (aB (Gb T) (Br.hm hr) rfl T.Kl T.Fz.kp T.AX (aa (d_v 0) (aa (d_v 1) (aa (d_v 2) af)))))
  (ay (s_r (bF (aa (d_v 0) (aa (d_v 2) (aa (LX ["n","record","k","numbers"] ["tie","number"] (c_t rfl (fun _ _ _ _ _=>(bQ 4 A3 (bQ 5 A3 iZ)))) (Pd rfl T.Qq (aa (d_v 1) (aa (d_v 3) af))) (fun _ _ _ _ _=>nv (Dh (d_v 5) d_i)) (fun _ _ _ _ _=>(d_v 4))) af))))))),cO (n:=3) (m:=1) rfl h⟩
theorem zS :
  aV P' w K mg base CX0 10 jf jl ["net","j","t"] (spD jd):=by
 refine T.jY.ok nN (fun vs H Q E h=>aT h) (fun cdv A outer s H vs Q E hr h=>?_);exact ⟨_,(ak (s_e (aB (vD T) (Br.hm hr) rfl T.jX T.gP.kp T.iE (aa (d_v 0) (aa (d_v 1) af))))
  (ak (s_a 3 nN.nd (aB (zR T) (Br.hm hr) rfl T.Ff T.AW.kp T.xJ (aa (bh (d_v 0) d_i) (aa (d_v 2) af))))
  (PY 4 6 7 5 ["net","j","t","ties","members","place","homes"] nN.nd Tp rfl (uT rfl T.dN (aa (bh (d_v 0) d_i) af)) (g_n 5 nN.nd) (c_n 7 Jh rfl rfl) (fun _ _ _ _ _=>nv (fu (aB (F9 T) (Br.hm hr) rfl T.M_ T.Ja.kp T.FJ (@aa _ _ _ _ _ (bh (d_v 0) d_i) (@aa _ _ _ _ _ (d_v 3) (@aa _ _ _ _ _ (d_v 7) (@aa _ _ _ _ _ (d_v 5) (@aa _ _ _ _ _ (d_v 1) af rfl) rfl) rfl) rfl) rfl)))) (fun _ _ _ _ _=>(d_v 7)) (MH rfl rfl T.AO (aa (d_v 6) af) (d_v 5))
  (ay (s_r (LX ["net","j","t","ties","members","place","homes"] ["places"] (c_n 7 Ji rfl rfl) (MA 4) (fun _ _ _ _ _=>gy) (fun _ _ _ _ _=>(uS rfl T.mX (aa (d_v 7) af))))))))),cO (n:=3) (m:=4) rfl h⟩
theorem mZ :
  aV P' w K mg base (CXE P' w aF) 10 jf jl ["net","j","t"] (spX aF aX):=by
 exact PN (n:=3) (m:=4) T.jY nN rfl rfl (fun cdv A outer s H E hr=>(cu (y_x (dO (x_call (bO T) (Br.hm hr) rfl T.jX T.gP.kp T.iE n9 (aa (d_v 0) (aa (d_v 1) af)))))))
theorem jn :
  aV P' w K mg base (CXE P' w aq) 10 jf jl ["net","j","t"] (spX aq bD):=by
 exact PN (n:=3) (m:=4) T.jY nN rfl rfl (fun cdv A outer s H E hr=>(cu (y_x (dO (x_call (bE T) (Br.hm hr) rfl T.jX T.gP.kp T.iE n9 (aa (d_v 0) (aa (d_v 1) af)))))))
theorem Gf :
  aV P' w K mg base CX0 5 rF kR ["n","ties","a","b","j"] (spD Ez):=by
 refine T.FL.ok nQ (fun vs H Q E h=>aT h) (fun cdv A outer s H vs Q E hr h=>?_);exact ⟨_,(ak (eO (fY (fu (aB (F9 T) (Br.hm hr) rfl T.M_ T.Ja.kp T.FJ (@aa _ _ _ _ _ (d_v 0) (@aa _ _ _ _ _ (d_v 1) (@aa _ _ _ _ _ (d_v 2) (@aa _ _ _ _ _ (d_v 3) (@aa _ _ _ _ _ (d_v 4) af rfl) rfl) rfl) rfl) rfl)))) (ay (s_r d_n)) cQ)
  (ak (s_a 5 nQ.nd d_i)
  (ak (s_a 6 nQ.nd (jR rfl T.jW (aa (d_v 1) af)))
  (ak (LR 100 Tp (Dh (iX (d_v 6) (d_v 5)) d_i)
  (ak (s_a 7 nQ.nd (JD (cK (d_v 5) (d_v 6)) d_i))
  (ay (eO (fu (aB (F9 T) (Br.hm hr) rfl T.M_ T.Ja.kp T.FJ (@aa _ _ _ _ _ (d_v 0) (@aa _ _ _ _ _ (RA (d_v 1) (o_s (d_v 7)) o_n) (@aa _ _ _ _ _ (d_v 2) (@aa _ _ _ _ _ (d_v 3) (@aa _ _ _ _ _ (d_v 4) af rfl) rfl) rfl) rfl) rfl))) (ay (s_a 5 nQ.nd (d_v 7))) (ay (s_a 6 nQ.nd (d_v 7)))))))
  (ay (s_r (bh (bh (d_v 1) (d_v 5)) d_i))))))),cO (n:=5) (m:=3) rfl h⟩
theorem NV :
  aV P' w K mg base CX0 10 jV gB ["net","a","b","j"] (spD mG):=by
 refine T.oV.ok lA (fun vs H Q E h=>aT h) (fun cdv A outer s H vs Q E hr h=>?_);exact ⟨_,(ak (s_e (aB (vD T) (Br.hm hr) rfl T.jX T.gP.kp T.iE (aa (d_v 0) (aa (d_v 3) af))))
  (ak (s_e (aB (NP T) (Br.hm hr) rfl T.Kh T.AV.kp T.AZ (aa (bh (d_v 0) d_i) (aa (d_v 1) (aa (d_v 2) af)))))
  (ak (s_a 4 lA.nd (aB (Gf T) (Br.hm hr) rfl T.Kn T.FL.kp T.A0 (@aa _ _ _ _ _ (bh (d_v 0) d_i) (@aa _ _ _ _ _ (bh (d_v 0) d_i) (@aa _ _ _ _ _ (d_v 1) (@aa _ _ _ _ _ (d_v 2) (@aa _ _ _ _ _ (d_v 3) af rfl) rfl) rfl) rfl) rfl)))
  (ak (eO (JJ (d_v 4) d_n) (ay (s_r (bF (aa d_s (aa (bh (aB (A5 T) (Br.hm hr) rfl T.I0 T.Fo.kp T.Ck (@aa _ _ _ _ _ (bh (d_v 0) d_i) (@aa _ _ _ _ _ (bh (d_v 0) d_i) (@aa _ _ _ _ _ (d_v 1) (@aa _ _ _ _ _ (d_v 2) (@aa _ _ _ _ _ (d_v 3) af rfl) rfl) rfl) rfl) rfl)) d_i) af))))) cQ)
  (ak (s_a 5 lA.nd (bh (aB (A5 T) (Br.hm hr) rfl T.I0 T.Fo.kp T.Ck (@aa _ _ _ _ _ (bh (d_v 0) d_i) (@aa _ _ _ _ _ (aB (zR T) (Br.hm hr) rfl T.Ff T.AW.kp T.xJ (aa (bh (d_v 0) d_i) (aa (d_v 4) af))) (@aa _ _ _ _ _ (d_v 1) (@aa _ _ _ _ _ (d_v 2) (@aa _ _ _ _ _ (d_v 3) af rfl) rfl) rfl) rfl) rfl)) d_i))
  (ak (s_a 6 lA.nd (bh (aB (A5 T) (Br.hm hr) rfl T.I0 T.Fo.kp T.Ck (@aa _ _ _ _ _ (bh (d_v 0) d_i) (@aa _ _ _ _ _ (aB (zR T) (Br.hm hr) rfl T.Ff T.AW.kp T.xJ (aa (bh (d_v 0) d_i) (aa (cK (d_v 4) d_i) af))) (@aa _ _ _ _ _ (d_v 1) (@aa _ _ _ _ _ (d_v 2) (@aa _ _ _ _ _ (d_v 3) af rfl) rfl) rfl) rfl) rfl)) d_i))
  (ay (s_r (bF (aa d_s (aa (d_v 4) (aa (d_v 5) (aa (d_v 6) af))))))))))))),cO (n:=4) (m:=3) rfl h⟩
theorem sq :
  aV P' w K mg base (CXE P' w aF) 10 jV gB ["net","a","b","j"] (spX aF bI):=by
 exact okY (n:=4) (m:=3) T.oV lA rfl rfl (fun cdv A outer s H E hr=>(cu (y_x (dO (x_call (bO T) (Br.hm hr) rfl T.jX T.gP.kp T.iE n9 (aa (d_v 0) (aa (d_v 3) af)))))))
theorem m5 :
  aV P' w K mg base (CXE P' w aq) 10 jV gB ["net","a","b","j"] (spX aq bu):=by
 exact okY (n:=4) (m:=3) T.oV lA rfl rfl (fun cdv A outer s H E hr=>(cu (y_x (dO (x_call (bE T) (Br.hm hr) rfl T.jX T.gP.kp T.iE n9 (aa (d_v 0) (aa (d_v 3) af)))))))
theorem o_ :
  aV P' w K mg base (CXE P' w aE) 10 jV gB ["net","a","b","j"] (spX aE cT):=by
 exact okY (n:=4) (m:=3) T.oV lA rfl rfl (fun cdv A outer s H E hr=>(JR (s_e (aB (vD T) (Br.hm hr) rfl T.jX T.gP.kp T.iE (aa (d_v 0) (aa (d_v 3) af)))) (cu (y_x (dO (x_call (gQ T) (Br.hm hr) rfl T.Kh T.AV.kp T.AZ n9 (aa (bh (d_v 0) d_i) (aa (d_v 1) (aa (d_v 2) af)))))))))
theorem NW :
  aV P' w K mg base CX0 6 rG kT ["net","j","place"] (spD J_):=by
 refine T.KC.ok zP (fun vs H Q E h=>aT h) (fun cdv A outer s H vs Q E hr h=>?_);exact ⟨_,(ak (Hu 3 ["net","j","place","moments","found"] ["other"] zP.nd (c_n 5 Jj rfl rfl) (uT rfl T.dN (aa (d_v 2) af)) (fun _ _ _ _ _=>gy) (fun _ _ _ _ _=>(aB (Gf T) (Br.hm hr) rfl T.Kn T.FL.kp T.A0 (@aa _ _ _ _ _ (bh (d_v 0) d_i) (@aa _ _ _ _ _ (bh (d_v 0) d_i) (@aa _ _ _ _ _ (d_v 5) (@aa _ _ _ _ _ (d_v 2) (@aa _ _ _ _ _ (d_v 1) af rfl) rfl) rfl) rfl) rfl))))
  (ak (Hu 4 ["net","j","place","moments","found"] ["other","moment"] zP.nd (c_t rfl (fun _ _ _ _ _=>(bQ 5 A4 (bQ 6 A4 iZ)))) (Pc rfl T.oU (d_v 3)) (fun _ _ _ _ _=>nv (Mk (d_v 6) d_n)) (fun _ _ _ _ _=>(bF (aa (d_v 6) (aa (d_v 5) (aa (d_v 2) af))))))
  (ay (s_r (O3 (Dh (jR rfl T.jW (aa (d_v 4) af)) d_i) (bg (aa (Ml rfl rfl T.Fc (aa (d_v 4) af)) af)) (bg af)))))),cO (n:=3) (m:=2) rfl h⟩
theorem NX :
  aV P' w K mg base CX0 10 mV ig ["net","j"] (spD oE):=by
 refine T.uu.ok sj (fun vs H Q E h=>aT h) (fun cdv A outer s H vs Q E hr h=>?_);exact ⟨_,(ak (s_e (aB (vD T) (Br.hm hr) rfl T.jX T.gP.kp T.iE (aa (d_v 0) (aa (d_v 1) af))))
  (ak (s_a 2 sj.nd (bg af))
  (ak (i0 Tp rfl (O4 rfl T.dN (aa d_i (aa (bh (d_v 0) d_i) af))) (g_n 3 sj.nd)
  (ay (Ph 2 (aB (NW T) (Br.hm hr) rfl T.QF T.KC.kp T.FO (aa (d_v 0) (aa (d_v 1) (aa (d_v 3) af)))))))
  (ay (s_r (d_v 2)))))),cO (n:=2) (m:=2) rfl h⟩
theorem pe :
  aV P' w K mg base (CXE P' w aF) 10 mV ig ["net","j"] (spX aF bB):=by
 exact okY (n:=2) (m:=2) T.uu sj rfl rfl (fun cdv A outer s H E hr=>(cu (y_x (dO (x_call (bO T) (Br.hm hr) rfl T.jX T.gP.kp T.iE n9 (aa (d_v 0) (aa (d_v 1) af)))))))
theorem lD :
  aV P' w K mg base (CXE P' w aq) 10 mV ig ["net","j"] (spX aq bM):=by
 exact okY (n:=2) (m:=2) T.uu sj rfl rfl (fun cdv A outer s H E hr=>(cu (y_x (dO (x_call (bE T) (Br.hm hr) rfl T.jX T.gP.kp T.iE n9 (aa (d_v 0) (aa (d_v 1) af)))))))
theorem zT :
  aV P' w K mg base CX0 1 rH kU ["script","k"] (spD qC):=by
 refine T.A1.ok ir (fun vs H Q E h=>aT h) (fun cdv A outer s H vs Q E hr h=>?_);exact ⟨_,(ak (s_a 2 ir.nd d_i)
  (ak (eO (OZ (d_v 1) (jR rfl T.jW (aa (d_v 0) af))) (ay (s_a 2 ir.nd (bh (d_v 0) (d_v 1)))) cQ)
  (ak (eO (O0 (d_v 2) (iY d_i d_i)) (ay (s_r (bg (aa (jQ (d_v 2) (uZ (uZ (uZ (uZ (iY d_i d_i) (iY d_i d_i)) (iY d_i d_i)) (iY d_i d_i)) (iY d_i d_i))) af)))) cQ)
  (ak (s_a 3 ir.nd (jQ (cK (cK (cK (d_v 2) (jP (jP d_i (d_v 1)) (d_v 1))) (jP d_i (d_v 1))) d_i) d_i))
  (ak (s_a 4 ir.nd d_i)
  (ak (i0 Tp rfl (uT rfl T.dN (aa d_i af)) (g_n 5 ir.nd)
  (ak (s_a 3 ir.nd (jQ (cK (cK (jP (d_v 3) d_i) (jP d_i (d_v 5))) d_i) d_i))
  (ak (s_a 3 ir.nd (jQ (jP (d_v 3) (d_v 3)) d_i))
  (ay (s_a 4 ir.nd (cK (jP (d_v 4) d_i) (jQ (cK (jP (d_v 3) d_i) (d_v 1)) d_i)))))))
  (ay (s_r (bg (aa (d_v 4) af)))))))))),cO (n:=2) (m:=4) rfl h⟩
theorem cZ :
  aV P' w K mg base CX0 1 rJ kW ["pool","many"] (spM cU):=by
 refine T.eU.ok F6 (fun vs H Q E h=>fR h) (fun cdv A outer s H vs Q E hr h=>?_);exact ⟨_,(ak (s_a 2 F6.nd (jQ (bh (d_v 0) d_i) (d_v 1)))
  (ak (JE 0 d_i (JD (bh (d_v 0) d_i) (d_v 1)))
  (ay (s_r (d_v 2))))),nV (n:=2) (m:=1) rfl h⟩
theorem NY :
  aV P' w K mg base CX0 2 rK kX ["pool"] (spM wW):=by
 refine T.KD.ok NH (fun vs H Q E h=>fR h) (fun cdv A outer s H vs Q E hr h=>?_);exact⟨_,(ay (s_r (bh (bg (@aa _ _ _ _ _ d_i (@aa _ _ _ _ _ d_i (@aa _ _ _ _ _ d_i (@aa _ _ _ _ _ d_i (@aa _ _ _ _ _ d_i (@aa _ _ _ _ _ d_i (@aa _ _ _ _ _ d_i (@aa _ _ _ _ _ d_i af rfl) rfl) rfl) rfl) rfl) rfl) rfl) rfl)) (bz (cZ T) (Br.hm hr) rfl T.fF T.eU.kp T.eG (aa (d_v 0) (aa d_i af)))))),nV (n:=1) (m:=0) rfl h⟩
theorem NZ :
  aV P' w K mg base CX0 2 rL kY ["pool","n","most"] (spM wX):=by
 refine T.KG.ok eK (fun vs H Q E h=>fR h) (fun cdv A outer s H vs Q E hr h=>?_);exact ⟨_,(ak (s_a 3 eK.nd (bz (cZ T) (Br.hm hr) rfl T.fF T.eU.kp T.eG (aa (d_v 0) (aa (cK (d_v 2) d_i) af))))
  (ak (s_a 4 eK.nd (bz (cZ T) (Br.hm hr) rfl T.fF T.eU.kp T.eG (aa (d_v 0) (aa d_i af))))
  (ak (s_a 5 eK.nd (bh (bg (aa d_i (aa d_i (aa (iY d_i d_i) (aa d_i af))))) (d_v 4)))
  (ak (s_a 6 eK.nd (bh (bg (aa d_i (aa (iY d_i d_i) af))) (O7 rfl T.Ke (aa (OX hr (d_v 4) d_i) af))))
  (ak (s_a 7 eK.nd (bz (cZ T) (Br.hm hr) rfl T.fF T.eU.kp T.eG (aa (d_v 0) (aa d_i af))))
  (ak (s_a 8 eK.nd (jP (bz (cZ T) (Br.hm hr) rfl T.fF T.eU.kp T.eG (aa (d_v 0) (aa (d_v 5) af))) (d_v 6)))
  (ak (s_a 9 eK.nd (bg af))
  (ak (i0 Tp rfl (uT rfl T.dN (aa (d_v 3) af)) (g_n 10 eK.nd)
  (ak (s_a 11 eK.nd (bz (cZ T) (Br.hm hr) rfl T.fF T.eU.kp T.eG (aa (d_v 0) (aa (d_v 1) af))))
  (ak (s_a 12 eK.nd (bz (cZ T) (Br.hm hr) rfl T.fF T.eU.kp T.eG (aa (d_v 0) (aa (d_v 1) af))))
  (ak (eO (o6 hr (d_v 7) d_i) (ay (s_a 12 eK.nd (jQ (cK (d_v 11) d_i) (d_v 1)))) cQ)
  (ak (eO (o6 hr (d_v 7) d_i) (ay (s_a 12 eK.nd (jQ (jQ (cK (cK (d_v 11) (jQ (d_v 12) d_i)) d_i) (yT rfl rfl T.AO (aa (d_v 1) (aa d_i af)))) (d_v 1)))) cQ)
  (ak (Ai 9 (bF (aa (d_v 8) (aa (yT rfl rfl T.AO (aa (d_v 11) (aa (d_v 12) af))) (aa (Di rfl rfl T.Fc (aa (d_v 11) (aa (d_v 12) af))) af)))))
  (ay (s_a 8 eK.nd (cK (cK (d_v 8) d_i) (jP (bz (cZ T) (Br.hm hr) rfl T.fF T.eU.kp T.eG (aa (d_v 0) (aa (d_v 5) af))) (d_v 6)))))))))))
  (ay (s_r (d_v 9))))))))))),nV (n:=3) (m:=10) rfl h⟩
theorem Gg :
  aV P' w K mg base CX0 2 rM kZ ["pool"] (spM uf):=by
 refine T.FP.ok F7 (fun vs H Q E h=>fR h) (fun cdv A outer s H vs Q E hr h=>?_);exact ⟨_,(@ak _ _ _ _ _ (@s_a _ _ _ _ 1 _ _ F7.nd (@bg _ _ _ _ (@aa _ _ _ _ _ d_n (@aa _ _ _ _ _ d_b (@aa _ _ _ _ _ d_b (@aa _ _ _ _ _ d_s (@aa _ _ _ _ _ (bg (aa d_i af)) (@aa _ _ _ _ _ (bF (aa d_i af)) (@aa _ _ _ _ _ (iX (iX d_i d_i) (bz (cZ T) (Br.hm hr) rfl T.fF T.eU.kp T.eG (aa (d_v 0) (aa (iY d_i d_i) af)))) (@aa _ _ _ _ _ (cK d_i (bz (cZ T) (Br.hm hr) rfl T.fF T.eU.kp T.eG (aa (d_v 0) (aa (iY d_i d_i) af)))) (@aa _ _ _ _ _ d_s af rfl) rfl) rfl) rfl) rfl) rfl) rfl) rfl) rfl)) rfl (by trivial) rfl (by trivial))
  (ay (s_r (bh (d_v 1) (bz (cZ T) (Br.hm hr) rfl T.fF T.eU.kp T.eG (aa (d_v 0) (aa (jR rfl T.jW (aa (d_v 1) af)) af))))))),nV (n:=1) (m:=1) rfl h⟩
theorem N1 :
  aV P' w K mg base CX0 2 rN k7 ["pool","net"] (spM wY):=by
 refine T.KH.ok lB (fun vs H Q E h=>fR h) (fun cdv A outer s H vs Q E hr h=>?_);exact ⟨_,(ak (s_u rfl (bQ 2 lB.nd (bQ 3 lB.nd (bQ 4 lB.nd iZ))) (d_v 1))
  (@ak _ _ _ _ _ (@s_a _ _ _ _ 5 _ _ lB.nd (@bg _ _ _ _ (@aa _ _ _ _ _ d_n (@aa _ _ _ _ _ (bg af) (@aa _ _ _ _ _ (bF af) (@aa _ _ _ _ _ (LO rfl T.vA (aa (d_v 1) af)) (@aa _ _ _ _ _ (bF (aa (d_v 2) (aa (d_v 3) af))) (@aa _ _ _ _ _ (bF (aa (d_v 2) (aa (d_v 3) (aa (d_v 4) (aa d_i af))))) (@aa _ _ _ _ _ (bF (aa d_b (aa (d_v 3) (aa (bg af) af)))) (@aa _ _ _ _ _ (bF (aa (d_v 2) (aa d_b (aa (bg af) af)))) (@aa _ _ _ _ _ (bF (aa d_i (aa (d_v 3) (aa (bg af) af)))) (@aa _ _ _ _ _ (bF (aa (d_v 2) (aa d_i (aa (bg af) af)))) af rfl) rfl) rfl) rfl) rfl) rfl) rfl) rfl) rfl) rfl)) rfl (by trivial) rfl (by trivial))
  (ak (s_a 5 lB.nd (cK (d_v 5) (bg (@aa _ _ _ _ _ (bF (aa d_i (aa (d_v 3) (aa (bg af) af)))) (@aa _ _ _ _ _ (bF (aa (d_v 2) (aa d_i (aa (bg af) af)))) (@aa _ _ _ _ _ (bF (aa (d_v 2) (aa (d_v 3) (aa d_n af)))) (@aa _ _ _ _ _ (bF (aa (d_v 2) (aa (d_v 3) (aa (MB (uS rfl T.mX (aa (d_v 4) af)) (bF (aa d_i af))) af)))) (@aa _ _ _ _ _ (bF (aa (d_v 2) (aa (d_v 3) (aa (bg (aa (bF (aa d_i (aa d_i (aa d_i af)))) af)) af)))) (@aa _ _ _ _ _ d_s af rfl) rfl) rfl) rfl) rfl) rfl))))
  (ak (s_a 5 lB.nd (cK (d_v 5) (bg (aa (bF (aa (d_v 2) (aa (d_v 3) (aa (bg (aa (bF (aa d_i (aa d_i (aa (d_v 2) af)))) af)) af)))) (aa (bF (aa (d_v 2) (aa (d_v 3) (aa (bg (aa (bF (aa (iX d_i d_i) (aa d_i (aa d_i af)))) af)) af)))) (aa (bF (aa (d_v 2) (aa (d_v 3) (aa (bg (aa (bg (aa d_i (aa d_i (aa d_i af)))) af)) af)))) (aa (bF (aa (d_v 2) (aa d_i (aa (bg (aa (bF (aa d_i (aa d_i (aa d_i af)))) (aa (bF (aa d_i (aa d_i (aa d_i af)))) af))) af)))) af)))))))
  (ay (s_r (bh (d_v 5) (bz (cZ T) (Br.hm hr) rfl T.fF T.eU.kp T.eG (aa (d_v 0) (aa (jR rfl T.jW (aa (d_v 5) af)) af)))))))))),nV (n:=2) (m:=4) rfl h⟩
theorem sr :
  aV P' w K mg base CX0 11 rO k8 ["way","net","a","b","j"] (spD (iD aF aq aE)):=by
 refine T.uw.ok lC (fun vs H Q E h=>aT h) (fun cdv A outer s H vs Q E hr h=>?_);exact ⟨_,(ak (MC (MD (fun pn xe=>(ay (eO (o6 hr (d_v 0) d_i) (ay (s_e (Au (zS T) (Br.hm hr) rfl T.xC T.jY.kp T.nM (aa (d_v 1) (aa (d_v 4) af))))) (ay (eO (o6 hr (d_v 0) d_i) (ay (s_e (aB (NX T) (Br.hm hr) rfl T.Fi T.uu.kp T.xK (aa (d_v 1) (aa (d_v 4) af))))) (ay (s_e (aB (NV T) (Br.hm hr) rfl T.AR T.oV.kp T.uv (aa (d_v 1) (aa (d_v 2) (aa (d_v 3) (aa (d_v 4) af))))))))))))) (MC (zf (ie:=5) rfl rfl rfl lC.nd rfl rfl rfl T.lq T.mW (fun pn xe E hp=>(cu (u7 (o6 hr (d_v 0) d_i) (cu (y_x (dO (Ay (mZ T) (Br.hm hr) rfl T.xC T.jY.kp T.nM hp (aa (d_v 1) (aa (d_v 4) af)))))) (cu (u7 (o6 hr (d_v 0) d_i) (cu (y_x (dO (x_call (pe T) (Br.hm hr) rfl T.Fi T.uu.kp T.xK hp (aa (d_v 1) (aa (d_v 4) af)))))) (cu (y_x (dO (x_call (sq T) (Br.hm hr) rfl T.AR T.oV.kp T.uv hp (aa (d_v 1) (aa (d_v 2) (aa (d_v 3) (aa (d_v 4) af))))))))))))) (fun A' xe=>(ak (s_a 6 lC.nd (LP (aZ (mj (Ds:=[aN,bw]) T.bH T.b_ (cI rfl T.cD (cI rfl T.ee mh)) (SJ rfl) rfl T.ah (d_v 5)) (aZ (mj (Ds:=[aN,bw]) T.aP T.bR (cI rfl T.cD (cI rfl T.ee mh)) (SJ rfl) rfl T.ah (d_v 5)) (aZ (mj (Ds:=[aN,bw]) T.bq T.b4 (cI rfl T.cD (cI rfl T.ee mh)) (SJ rfl) rfl T.ah (d_v 5)) f9))) (nT (Ag (aZ (gZ T.bH T.dw rfl rfl T.bS rfl T.ah (d_v 5)) (aZ (gZ T.aP T.cE rfl rfl T.bS rfl T.ah (d_v 5)) (aZ (gZ T.bq T.cX rfl rfl T.bS rfl T.ah (d_v 5)) f9)))))))
  (ay (s_r (bg (aa (aZ (ck T.bH T.gh rfl T.fT rfl T.ah (d_v 5)) (aZ (ck T.aP T.ez rfl T.fT rfl T.ah (d_v 5)) (aZ (ck T.bq T.fM rfl T.fT rfl T.ah (d_v 5)) f9))) (aa (aZ (ck T.bH T.eE rfl T.cC rfl T.ah (d_v 5)) (aZ (ck T.aP T.cY rfl T.cC rfl T.ah (d_v 5)) (aZ (ck T.bq T.dQ rfl T.cC rfl T.ah (d_v 5)) f9))) (aa (aZ (ck T.bH T.fL rfl T.d_ rfl T.ah (d_v 5)) (aZ (ck T.aP T.dP rfl T.d_ rfl T.ah (d_v 5)) (aZ (ck T.bq T.e7 rfl T.d_ rfl T.ah (d_v 5)) f9))) (aa (d_v 6) af)))))))))) (MC (zf (ie:=5) rfl rfl rfl lC.nd rfl rfl rfl T.lq T.jm (fun pn xe E hp=>(cu (u7 (o6 hr (d_v 0) d_i) (cu (y_x (dO (Ay (jn T) (Br.hm hr) rfl T.xC T.jY.kp T.nM hp (aa (d_v 1) (aa (d_v 4) af)))))) (cu (u7 (o6 hr (d_v 0) d_i) (cu (y_x (dO (x_call (lD T) (Br.hm hr) rfl T.Fi T.uu.kp T.xK hp (aa (d_v 1) (aa (d_v 4) af)))))) (cu (y_x (dO (x_call (m5 T) (Br.hm hr) rfl T.AR T.oV.kp T.uv hp (aa (d_v 1) (aa (d_v 2) (aa (d_v 3) (aa (d_v 4) af))))))))))))) (fun A' xe=>(ak (s_a 6 lC.nd (LP (aZ (mj (Ds:=[aN,bw]) T.bH T.b_ (cI rfl T.cD (cI rfl T.ee mh)) (SJ rfl) rfl T.ah (d_v 5)) (aZ (mj (Ds:=[aN,bw]) T.aP T.bR (cI rfl T.cD (cI rfl T.ee mh)) (SJ rfl) rfl T.ah (d_v 5)) (aZ (mj (Ds:=[aN,bw]) T.bq T.b4 (cI rfl T.cD (cI rfl T.ee mh)) (SJ rfl) rfl T.ah (d_v 5)) f9))) (nT (Ag (aZ (gZ T.bH T.dw rfl rfl T.bS rfl T.ah (d_v 5)) (aZ (gZ T.aP T.cE rfl rfl T.bS rfl T.ah (d_v 5)) (aZ (gZ T.bq T.cX rfl rfl T.bS rfl T.ah (d_v 5)) f9)))))))
  (ay (s_r (bg (aa (aZ (ck T.bH T.gh rfl T.fT rfl T.ah (d_v 5)) (aZ (ck T.aP T.ez rfl T.fT rfl T.ah (d_v 5)) (aZ (ck T.bq T.fM rfl T.fT rfl T.ah (d_v 5)) f9))) (aa (aZ (ck T.bH T.eE rfl T.cC rfl T.ah (d_v 5)) (aZ (ck T.aP T.cY rfl T.cC rfl T.ah (d_v 5)) (aZ (ck T.bq T.dQ rfl T.cC rfl T.ah (d_v 5)) f9))) (aa (aZ (ck T.bH T.fL rfl T.d_ rfl T.ah (d_v 5)) (aZ (ck T.aP T.dP rfl T.d_ rfl T.ah (d_v 5)) (aZ (ck T.bq T.e7 rfl T.d_ rfl T.ah (d_v 5)) f9))) (aa (d_v 6) af)))))))))) (zf (ie:=5) rfl rfl rfl lC.nd rfl rfl rfl T.lq T.lu (fun pn xe E hp=>(cu (u7 (o6 hr (d_v 0) d_i) Eg (cu (u7 (o6 hr (d_v 0) d_i) Eg (cu (y_x (dO (x_call (o_ T) (Br.hm hr) rfl T.AR T.oV.kp T.uv hp (aa (d_v 1) (aa (d_v 2) (aa (d_v 3) (aa (d_v 4) af))))))))))))) (fun A' xe=>(ak (s_a 6 lC.nd (LP (aZ (mj (Ds:=[aN,bw]) T.bH T.b_ (cI rfl T.cD (cI rfl T.ee mh)) (SJ rfl) rfl T.ah (d_v 5)) (aZ (mj (Ds:=[aN,bw]) T.aP T.bR (cI rfl T.cD (cI rfl T.ee mh)) (SJ rfl) rfl T.ah (d_v 5)) (aZ (mj (Ds:=[aN,bw]) T.bq T.b4 (cI rfl T.cD (cI rfl T.ee mh)) (SJ rfl) rfl T.ah (d_v 5)) f9))) (nT (Ag (aZ (gZ T.bH T.dw rfl rfl T.bS rfl T.ah (d_v 5)) (aZ (gZ T.aP T.cE rfl rfl T.bS rfl T.ah (d_v 5)) (aZ (gZ T.bq T.cX rfl rfl T.bS rfl T.ah (d_v 5)) f9)))))))
  (ay (s_r (bg (aa (aZ (ck T.bH T.gh rfl T.fT rfl T.ah (d_v 5)) (aZ (ck T.aP T.ez rfl T.fT rfl T.ah (d_v 5)) (aZ (ck T.bq T.fM rfl T.fT rfl T.ah (d_v 5)) f9))) (aa (aZ (ck T.bH T.eE rfl T.cC rfl T.ah (d_v 5)) (aZ (ck T.aP T.cY rfl T.cC rfl T.ah (d_v 5)) (aZ (ck T.bq T.dQ rfl T.cC rfl T.ah (d_v 5)) f9))) (aa (aZ (ck T.bH T.fL rfl T.d_ rfl T.ah (d_v 5)) (aZ (ck T.aP T.dP rfl T.d_ rfl T.ah (d_v 5)) (aZ (ck T.bq T.e7 rfl T.d_ rfl T.ah (d_v 5)) f9))) (aa (d_v 6) af)))))))))))))
  (ay (s_r (bg af)))),cO (n:=5) (m:=2) rfl h⟩
theorem N2 :
  aV P' w K mg base CX0 3 rP k9 ["pool","n"] (spM wZ):=by
 refine T.KI.ok zQ (fun vs H Q E h=>fR h) (fun cdv A outer s H vs Q E hr h=>?_);exact ⟨_,(ak (s_a 2 zQ.nd (bz (Gg T) (Br.hm hr) rfl T.Ko T.FP.kp T.A2 (aa (d_v 0) af)))
  (ak (s_a 3 zQ.nd (bz (cZ T) (Br.hm hr) rfl T.fF T.eU.kp T.eG (aa (d_v 0) (aa (d_v 1) af))))
  (ay (s_r (bh (bg (@aa _ _ _ _ _ (bF (aa (d_v 2) (aa (d_v 3) af))) (@aa _ _ _ _ _ (bF (aa (d_v 3) (aa (d_v 2) af))) (@aa _ _ _ _ _ (bF (aa (d_v 3) (aa (d_v 3) af))) (@aa _ _ _ _ _ (bF (aa (d_v 1) (aa (d_v 3) af))) (@aa _ _ _ _ _ (bF (aa (d_v 3) (aa (d_v 1) af))) (@aa _ _ _ _ _ (bF (aa (d_v 2) (aa (d_v 2) af))) af rfl) rfl) rfl) rfl) rfl) rfl)) (bz (cZ T) (Br.hm hr) rfl T.fF T.eU.kp T.eG (aa (d_v 0) (aa d_i af)))))))),nV (n:=2) (m:=2) rfl h⟩
theorem N3 :
  aV P' w K mg base CX0 3 rQ k_ ["pool","k"] (spM w_):=by
 refine T.KJ.ok F8 (fun vs H Q E h=>fR h) (fun cdv A outer s H vs Q E hr h=>?_);exact ⟨_,(ak (s_a 2 F8.nd (bz (Gg T) (Br.hm hr) rfl T.Ko T.FP.kp T.A2 (aa (d_v 0) af)))
  (ay (s_r (bh (bg (@aa _ _ _ _ _ (d_v 2) (@aa _ _ _ _ _ d_i (@aa _ _ _ _ _ (cK (d_v 1) d_i) (@aa _ _ _ _ _ (iX d_i d_i) (@aa _ _ _ _ _ d_b (@aa _ _ _ _ _ (d_v 2) af rfl) rfl) rfl) rfl) rfl) rfl)) (bz (cZ T) (Br.hm hr) rfl T.fF T.eU.kp T.eG (aa (d_v 0) (aa d_i af))))))),nV (n:=2) (m:=1) rfl h⟩
theorem N4 :
  aV P' w K mg base CX0 12 rR nK ["script"] (spD (qD aF aq aE)):=by
 refine T.QU.ok fN (fun vs H Q E h=>aT h) (fun cdv A outer s H vs Q E hr h=>?_);exact ⟨_,(ak (s_a 1 fN.nd (aB (zT T) (Br.hm hr) rfl T.Fj T.A1.kp T.xM (aa (d_v 0) (aa d_i af))))
  (ak (s_a 2 fN.nd (bz (NY T) (Br.hm hr) rfl T.QG T.KD.kp T.FW (aa (d_v 1) af)))
  (ak (s_a 3 fN.nd (cK d_i (bz (cZ T) (Br.hm hr) rfl T.fF T.eU.kp T.eG (aa (d_v 1) (aa d_i af)))))
  (ak (s_a 4 fN.nd (aB (NU T) (Br.hm hr) rfl T.QE T.KA.kp T.FU (aa (d_v 2) (aa (Ie (NZ T) (Br.hm hr) rfl T.QH T.KG.kp T.FY (aa (aB (zT T) (Br.hm hr) rfl T.Fj T.A1.kp T.xM (aa (d_v 0) (aa d_i af))) (aa (d_v 2) (aa d_i af)))) (aa (d_v 3) af)))))
  (ak (i0 Tp rfl (uT rfl T.dN (aa (Di rfl rfl T.Fc (aa d_i (aa (yT rfl rfl T.AO (aa (jR rfl T.jW (aa (d_v 0) af)) (aa d_i af))) af))) af)) (g_n 5 fN.nd)
  (ak (s_a 1 fN.nd (aB (zT T) (Br.hm hr) rfl T.Fj T.A1.kp T.xM (aa (d_v 0) (aa (d_v 5) af))))
  (ak (s_u rfl (bQ 6 fN.nd (bQ 7 fN.nd iZ)) (bz (N2 T) (Br.hm hr) rfl T.QJ T.KI.kp T.F0 (aa (d_v 1) (aa (d_v 2) af))))
  (ak (s_a 8 fN.nd (bz (N3 T) (Br.hm hr) rfl T.QK T.KJ.kp T.F1 (aa (d_v 1) (aa (d_v 3) af))))
  (ak (s_a 9 fN.nd (bz (N1 T) (Br.hm hr) rfl T.QI T.KH.kp T.FZ (aa (d_v 1) (aa (d_v 4) af))))
  (ak (i0 Tp rfl (uT rfl T.dN (aa d_i af)) (g_n 10 fN.nd)
  (ak (eO (sO hr (aB (sr T) (Br.hm hr) rfl T.xD T.uw.kp T.se (@aa _ _ _ _ _ (d_v 10) (@aa _ _ _ _ _ (d_v 9) (@aa _ _ _ _ _ (d_v 6) (@aa _ _ _ _ _ (d_v 7) (@aa _ _ _ _ _ (d_v 8) af rfl) rfl) rfl) rfl) rfl)) (bg (aa d_b (aa d_b (aa d_b (aa d_b af)))))) (ay (s_r d_b)) cQ)
  (ak (eO (sO hr (aB (sr T) (Br.hm hr) rfl T.xD T.uw.kp T.se (@aa _ _ _ _ _ (d_v 10) (@aa _ _ _ _ _ (d_v 9) (@aa _ _ _ _ _ d_i (@aa _ _ _ _ _ (iX (d_v 2) d_i) (@aa _ _ _ _ _ d_i af rfl) rfl) rfl) rfl) rfl)) (bg (aa d_b (aa d_b (aa d_b (aa d_b af)))))) (ay (s_r d_b)) cQ)
  (ay (eO (sO hr (aB (sr T) (Br.hm hr) rfl T.xD T.uw.kp T.se (@aa _ _ _ _ _ (d_v 10) (@aa _ _ _ _ _ (d_v 4) (@aa _ _ _ _ _ (d_v 6) (@aa _ _ _ _ _ (d_v 7) (@aa _ _ _ _ _ (d_v 8) af rfl) rfl) rfl) rfl) rfl)) (bg (aa d_b (aa d_b (aa d_b (aa d_b af)))))) (ay (s_r d_b)) cQ)))))
  (ak (eO (sO hr (aB (sr T) (Br.hm hr) rfl T.xD T.uw.kp T.se (@aa _ _ _ _ _ d_i (@aa _ _ _ _ _ (d_v 4) (@aa _ _ _ _ _ d_i (@aa _ _ _ _ _ (iX (d_v 2) d_i) (@aa _ _ _ _ _ (d_v 8) af rfl) rfl) rfl) rfl) rfl)) (bg (aa d_b (aa d_b (aa d_b (aa d_b af)))))) (ay (s_r d_b)) cQ)
  (ay (eO (sO hr (aB (sr T) (Br.hm hr) rfl T.xD T.uw.kp T.se (@aa _ _ _ _ _ d_i (@aa _ _ _ _ _ (d_v 4) (@aa _ _ _ _ _ (d_v 6) (@aa _ _ _ _ _ (d_v 7) (@aa _ _ _ _ _ (cK d_i (bz (cZ T) (Br.hm hr) rfl T.fF T.eU.kp T.eG (aa (d_v 1) (aa (d_v 3) af)))) af rfl) rfl) rfl) rfl) rfl)) (bg (aa d_b (aa d_b (aa d_b (aa d_b af)))))) (ay (s_r d_b)) cQ)))))))))
  (ay (s_r (OX hr (Au (zS T) (Br.hm hr) rfl T.xC T.jY.kp T.nM (aa (d_v 4) (aa (d_v 3) af))) (aB (zS T) (Br.hm hr) rfl T.xC T.jY.kp T.FQ (aa (d_v 4) (aa (d_v 3) (aa d_i af)))))))))))),cO (n:=1) (m:=10) rfl h⟩
end
theorem all_mk{l:Vz}{w:World}{K:gV}{h:Heap}{mg:Str->Option Value}{fa zA zB zC zD zF zG zH zI zJ zK qQ qR qS qT qU qV qW qX qY oR qZ q_ rj rm rq rD oS mU rE jf rF jV rG mV rH rJ rK rL rM rN rO rP rQ rR aq aF aE aN bw bC:Addr}{rS rT rU rV rW rX rY rZ r8 r9 ku kB kC kD kE kF kG kH kI jh kJ kK kL kM kO kP ji ic kQ kR gB kT ig kU kW kX kY kZ k7 k8 k9 k_ nK:FuncData}(X:K.In h)(G:h.Ns mainGlobals mg)(hfa:mg "law" = some (.ref fa))
  {N5 vE:Option Addr} {N6:Array (Option Value)} {N7 vF vG vH su vJ:Value} {sy:Addr} {lg:Tok} {zU:Nat} {xQ:Value} {xR:Option Addr} {xS:Array (Option Value)}
  {mY:Tok}
  (Gh:bW K "steps_of" (top 3) zA rS)
  (Gi:bW K "free_steps" (top 4) zB rT)
  (Gj:bW K "led_steps" (top 5) zC rU)
  (Gk:bW K "shortest_ways" (top 6) zD rV)
  (Gm:bW K "lead_along" (top 7) zF rW)
  (Gn:bW K "parted" (top 8) zG rX)
  (Gp:bW K "ways_apart" (top 1) zH rY)
  (Gq:bW K "hang_often" (top 2) zI rZ)
  (Gr:bW K "is_whole" (top 17) zJ r8)
  (Gs:bW K "is_within" (top 18) zK r9)
  (xT:bW K "is_places" (top 19) qQ ku)
  (xU:bW K "is_place" (top 20) qR kB)
  (xV:bW K "is_layers" (top 21) qS kC)
  (xW:bW K "is_moment" (top 22) qT kD)
  (xX:bW K "is_tie_either_way" (top 23) qU kE)
  (xY:bW K "is_tie" (top 24) qV kF)
  (xZ:bW K "is_rising" (top 25) qW kG)
  (x6:bW K "is_pair" (top 26) qX kH)
  (x8:bW K "look_at_layers" (top 27) qY kI)
  (x9:bW K "look_at_pair" (top 28) oR jh)
  (x_:bW K "merged" (top 30) qZ kJ)
  (ya:bW K "least_layer" (top 33) q_ kK)
  (yb:bW K "layered" (top 32) rj kL)
  (yc:bW K "is_record" (top 36) rm kM)
  (yd:bW K "since" (top 37) rq kO)
  (ye:bW K "is_net" (top 39) rD kP)
  (yf:bW K "look_at_net" (top 40) oS ji)
  (yg:bW K "look_at_net_layers" (top 41) mU ic)
  (yh:bW K "net_of" (top 42) rE kQ)
  (Gu:S2 K mainGlobals "classes" = some (some (.ref jf))) (Gv:K.lookup jf=some ⟨N7,N5,.func (S5 "classes" "classes" (bx (top 44)) (aW (top 44)) (ai (top 44)) (.ref sy) vF vG vH vE su vJ),N6⟩) (Gw:Uv K su "classes" = true) (Gx:Tw K (.ref jf)=true)
  (A6:K.lookup sy=some ⟨xQ,xR,.seq #[.int 0 lg] zU,xS⟩)
  (yi:bW K "latest" (top 46) rF kR)
  (yj:bW K "when" (top 45) jV gB)
  (yk:bW K "youngest_link" (top 49) rG kT)
  (yl:bW K "links" (top 48) mV ig)
  (ym:bW K "_law_pool" (top 51) rH kU)
  (yo:bW K "_law_take" (top 52) rJ kW)
  (yp:bW K "_law_many" (top 53) rK kX)
  (yq:bW K "_law_record" (top 54) rL kY)
  (yr:bW K "_law_odd" (top 57) rM kZ)
  (yt:bW K "_law_no_net" (top 58) rN k7)
  (yu:bW K "_law_refused" (top 59) rO k8)
  (yw:bW K "_law_pair" (top 60) rP k9)
  (yx:bW K "_law_no_layers" (top 61) rQ k_)
  (uz:bW K "law" (top 62) rR nK)
  (iu:S2 K mainGlobals "ValueError" = some none)
  (Gy:S2 K mainGlobals "all" = some none)
  (zV:S2 K mainGlobals "bool" = some none)
  (zW:S2 K mainGlobals "dict" = some none)
  (jo:S2 K mainGlobals "enumerate" = some none)
  (Gz:S2 K mainGlobals "int" = some none)
  (iw:S2 K mainGlobals "isinstance" = some none)
  (GA:S2 K mainGlobals "len" = some none)
  (zX:S2 K mainGlobals "list" = some none)
  (GB:S2 K mainGlobals "max" = some none)
  (GC:S2 K mainGlobals "min" = some none)
  (vK:S2 K mainGlobals "range" = some none)
  (lE:S2 K mainGlobals "reversed" = some none)
  (sC:S2 K mainGlobals "sorted" = some none)
  (vL:S2 K mainGlobals "tuple" = some none)
  (GD:S2 K mainGlobals "zip" = some none)
  (jq:S2 K mainGlobals "MOST_TIES" = some (some (.int 60 mY)))
  (iy:S2 K mainGlobals "NoLayers" = some (some (.ref aq)))
  (pI:S2 K mainGlobals "NoNet" = some (some (.ref aF)))
  (m6:S2 K mainGlobals "NoPair" = some (some (.ref aE)))
  (lF:S2 K mainGlobals "NoPlaces" = some (some (.ref aN)))
  (sD:S2 K mainGlobals "NoTies" = some (some (.ref bw)))
  (lG:S2 K mainGlobals "PlyError" = some (some (.ref bC)))
  (jr:UZ K aF bmV "ValueError.__new__" = true)
  (lH:TN K (.ref aF) "__getattribute__" = some (some (.builtin "BaseException.__getattribute__")))
  (lI:TN K (.ref aF) "__getattr__" = some none)
  (lJ:TN K (.ref aF) "__class__" = some (some (.builtin "object.__class__")))
  (lM:TV K aF (.type "BaseException")=some true)
  (lO:TV K aF (.type "object")=some true)
  (lP:(UY K aF).isSome=true)
  (gj:UZ K aq bmV "ValueError.__new__" = true)
  (gC:TN K (.ref aq) "__getattribute__" = some (some (.builtin "BaseException.__getattribute__")))
  (gD:TN K (.ref aq) "__getattr__" = some none)
  (gE:TN K (.ref aq) "__class__" = some (some (.builtin "object.__class__")))
  (gF:TV K aq (.type "BaseException")=some true)
  (gG:TV K aq (.type "object")=some true)
  (gH:(UY K aq).isSome=true)
  (iz:UZ K aE bmV "ValueError.__new__" = true)
  (jt:TN K (.ref aE) "__getattribute__" = some (some (.builtin "BaseException.__getattribute__")))
  (ju:TN K (.ref aE) "__getattr__" = some none)
  (jv:TN K (.ref aE) "__class__" = some (some (.builtin "object.__class__")))
  (jx:TV K aE (.type "BaseException")=some true)
  (jy:TV K aE (.type "object")=some true)
  (jz:(UY K aE).isSome=true)
  (cg:SO K (.ref aq) (.type "ValueError")=some true)
  (cJ:SO K (.ref aF) (.type "ValueError")=some true)
  (cF:SO K (.ref aE) (.type "ValueError")=some true)
  (dI:PySem.W.typeIn K (.ref bC)=some (.type "type"))
  (dJ:(UY K bC).isSome=true)
  (dM:TV K bC (.type "BaseException")=some true)
  (cG:TV K aq (.ref bC)=some true)
  (dB:TV K aF (.ref bC)=some true)
  (c_:TV K aE (.ref bC)=some true)
  (cH:SO K (.ref aq) (.ref aq)=some true)
  (dD:SO K (.ref aq) (.ref aF)=some false)
  (dc:SO K (.ref aq) (.ref aE)=some false)
  (dF:SO K (.ref aF) (.ref aq)=some false)
  (e8:SO K (.ref aF) (.ref aF)=some true)
  (eL:SO K (.ref aF) (.ref aE)=some false)
  (dg:SO K (.ref aE) (.ref aq)=some false)
  (eN:SO K (.ref aE) (.ref aF)=some false)
  (dR:SO K (.ref aE) (.ref aE)=some true)
  (bK:Uo K (.ref aq) (([aN,bw]:List Addr).map S4)=some false)
  (bY:Uo K (.ref aF) (([aN,bw]:List Addr).map S4)=some false)
  (bU:Uo K (.ref aE) (([aN,bw]:List Addr).map S4)=some false) :
  ∃fd:FuncData,(∀(s:Shared) (v:Value),BindsTo s fd ⟨[v],[]⟩ [("script",v)])/\∀base:Heap,K.In base->base.Ns mainGlobals mg->aV l.prog w K mg base CX0 12 fa fd ["script"] (spD (qD aF aq aE)):=by
 have e:=hfa.symm.trans (uz.m X G);cases e;have Nc:=Gh.F.cS (ps:=["n","ties"]) rfl fun _ _ _ _ _ _ _ _=>rfl;have Nd:=Gi.F.cS (ps:=["steps","heads"]) rfl fun _ _ _ _ _ _ _ _=>rfl;have Nb:=Gj.F.cS (ps:=["steps","heads"]) rfl fun _ _ _ _ _ _ _ _=>rfl;have I_:=Gk.F.cS (ps:=["steps","a"]) rfl fun _ _ _ _ _ _ _ _=>rfl;have Nf:=Gm.F.cS (ps:=["heads","way"]) rfl fun _ _ _ _ _ _ _ _=>rfl;have Ng:=Gn.F.qv (ps:=["steps","heads","a","b","count"]) rfl fun _ _ _ _ _ _ _ _ _ _ _=>rfl;have Ck:=Gp.F.qv (ps:=["n","ties","a","b","most"]) rfl fun _ _ _ _ _ _ _ _ _ _ _=>rfl;have FJ:=Gq.F.qv (ps:=["n","ties","a","b","times"]) rfl fun _ _ _ _ _ _ _ _ _ _ _=>rfl;have Nh:=Gr.F.gA (ps:=["thing"]) rfl fun _ _ _ _ _ _ _=>rfl;have xE:=Gs.F.g8 (ps:=["thing","low","high"]) rfl fun _ _ _ _ _ _ _ _ _=>rfl;have FA:=xT.F.gA (ps:=["thing"]) rfl fun _ _ _ _ _ _ _=>rfl;have ur:=xU.F.cS (ps:=["n","thing"]) rfl fun _ _ _ _ _ _ _ _=>rfl;have AS:=xV.F.gA (ps:=["thing"]) rfl fun _ _ _ _ _ _ _=>rfl;have Fq:=xW.F.gA (ps:=["thing"]) rfl fun _ _ _ _ _ _ _=>rfl;have Ft:=xX.F.cS (ps:=["n","thing"]) rfl fun _ _ _ _ _ _ _ _=>rfl;have FD:=xY.F.cS (ps:=["n","thing"]) rfl fun _ _ _ _ _ _ _ _=>rfl;have FF:=xZ.F.gA (ps:=["things"]) rfl fun _ _ _ _ _ _ _=>rfl;have AU:=x6.F.g8 (ps:=["n","a","b"]) rfl fun _ _ _ _ _ _ _ _ _=>rfl;have Fw:=x8.F.gA (ps:=["k"]) rfl fun _ _ _ _ _ _ _=>rfl;have AZ:=x9.F.g8 (ps:=["n","a","b"]) rfl fun _ _ _ _ _ _ _ _ _=>rfl;have Fx:=x_.F.g8 (ps:=["groups","a","b"]) rfl fun _ _ _ _ _ _ _ _ _=>rfl;have Fy:=ya.F.g8 (ps:=["layers","a","b"]) rfl fun _ _ _ _ _ _ _ _ _=>rfl;have AX:=yb.F.g8 (ps:=["n","record","k"]) rfl fun _ _ _ _ _ _ _ _ _=>rfl;have FG:=yc.F.cS (ps:=["n","thing"]) rfl fun _ _ _ _ _ _ _ _=>rfl;have xJ:=yd.F.cS (ps:=["record","t"]) rfl fun _ _ _ _ _ _ _ _=>rfl;have AY:=ye.F.gA (ps:=["thing"]) rfl fun _ _ _ _ _ _ _=>rfl;have xH:=yf.F.gA (ps:=["thing"]) rfl fun _ _ _ _ _ _ _=>rfl;have iE:=yg.F.cS (ps:=["net","j"]) rfl fun _ _ _ _ _ _ _ _=>rfl;have FU:=yh.F.g8 (ps:=["n","record","k"]) rfl fun _ _ _ _ _ _ _ _ _=>rfl;have jY:=HV (st:=top 44) Gv Gw Gx;have FQ:Binds K (S5 "classes" "classes" (bx (top 44)) (aW (top 44)) (ai (top 44)) (.ref sy) vF vG vH vE su vJ) ["net","j","t"] []:=fun s us hIn hl=>match us,hl with | [_,_,_],_=>PySem.W.binds_K hIn rfl A6 rfl rfl rfl
 have nM:Binds K (S5 "classes" "classes" (bx (top 44)) (aW (top 44)) (ai (top 44)) (.ref sy) vF vG vH vE su vJ) ["net","j","t"] [.int 0 lg]:=fun s us hIn hl=>BI (C:=fun us=>BindsTo s (S5 "classes" "classes" (bx (top 44)) (aW (top 44)) (ai (top 44)) (.ref sy) vF vG vH vE su vJ) ⟨us,[]⟩ ((["net","j","t"]:List Str).zip (us++[.int 0 lg]))) (by simpa using hl) fun _ _=>PySem.W.binds_K hIn rfl A6 rfl rfl rfl;have A0:=yi.F.qv (ps:=["n","ties","a","b","j"]) rfl fun _ _ _ _ _ _ _ _ _ _ _=>rfl;have uv:=yj.F.Mw (ps:=["net","a","b","j"]) rfl fun _ _ _ _ _ _ _ _ _ _=>rfl;have FO:=yk.F.g8 (ps:=["net","j","place"]) rfl fun _ _ _ _ _ _ _ _ _=>rfl;have xK:=yl.F.cS (ps:=["net","j"]) rfl fun _ _ _ _ _ _ _ _=>rfl;have xM:=ym.F.cS (ps:=["script","k"]) rfl fun _ _ _ _ _ _ _ _=>rfl;have eG:=yo.F.cS (ps:=["pool","many"]) rfl fun _ _ _ _ _ _ _ _=>rfl;have FW:=yp.F.gA (ps:=["pool"]) rfl fun _ _ _ _ _ _ _=>rfl;have FY:=yq.F.g8 (ps:=["pool","n","most"]) rfl fun _ _ _ _ _ _ _ _ _=>rfl;have A2:=yr.F.gA (ps:=["pool"]) rfl fun _ _ _ _ _ _ _=>rfl;have FZ:=yt.F.cS (ps:=["pool","net"]) rfl fun _ _ _ _ _ _ _ _=>rfl;have se:=yu.F.qv (ps:=["way","net","a","b","j"]) rfl fun _ _ _ _ _ _ _ _ _ _ _=>rfl;have F0:=yw.F.cS (ps:=["pool","n"]) rfl fun _ _ _ _ _ _ _ _=>rfl;have F1:=yx.F.cS (ps:=["pool","k"]) rfl fun _ _ _ _ _ _ _ _=>rfl;refine⟨_,fun s v=>uz.RN (fun _ _ _ _ _ _ _=>rfl) s v,fun base Xb _=>?_⟩;have T:Txt mg K base _ _ _ _ _ _ _ _ _ _ _ _ _ _ _ _ _ _ _ _ _ _ _ _ _ _ _ _ _ _ _ _ _ _ _ _ _ _ _ _ _ _ _ _ _ _ _ _ _ _ _ _ _ _ _ _ _ _ _ _ _ _ _ _ _ _ _ _ _ _ _ _ _ _ _ _ _ _ _ _ _ _ _ _ _ _ _ _ _ _ _ _ _ _ _:=⟨mgo X G iy,mgo X G pI,mgo X G m6,mgo X G lF,mgo X G sD,mgo X G lG,qo Xb (mgo X G pI) jr,⟨⟨lH,lI,lJ,lM,lO⟩,lP⟩,qo Xb (mgo X G iy) gj,⟨⟨gC,gD,gE,gF,gG⟩,gH⟩,qo Xb (mgo X G m6) iz,⟨⟨jt,ju,jv,jx,jy⟩,jz⟩,cg,cJ,cF,⟨dI,dJ,dM,cG⟩,⟨dI,dJ,dM,dB⟩,⟨dI,dJ,dM,c_⟩,cH,dD,dc,dF,e8,eL,dg,eN,dR,bK,bY,bU,mno X G iu,mno X G Gy,mno X G zV,mno X G zW,mno X G jo,mno X G Gz,mno X G iw,mno X G GA,mno X G zX,mno X G GB,mno X G GC,mno X G vK,mno X G lE,mno X G sC,mno X G vL,mno X G GD,⟨_,mgo X G jq⟩,Gh.m X G,Gi.m X G,Gj.m X G,Gk.m X G,Gm.m X G,Gn.m X G,Gp.m X G,Gq.m X G,Gr.m X G,Gs.m X G,xT.m X G,xU.m X G,xV.m X G,xW.m X G,xX.m X G,xY.m X G,xZ.m X G,x6.m X G,x8.m X G,x9.m X G,x_.m X G,ya.m X G,yb.m X G,yc.m X G,yd.m X G,ye.m X G,yf.m X G,yg.m X G,yh.m X G,mgo X G Gu,yi.m X G,yj.m X G,yk.m X G,yl.m X G,ym.m X G,yo.m X G,yp.m X G,yq.m X G,yr.m X G,yt.m X G,yu.m X G,yw.m X G,yx.m X G,uz.m X G,Gh.F,Gi.F,Gj.F,Gk.F,Gm.F,Nb,I_,Gn.F,Nc,Nd,Nf,Ng,Gp.F,Ck,Gq.F,Gr.F,Nh,Gs.F,xE,xT.F,xU.F,xV.F,xW.F,ur,Fq,xX.F,Ft,xY.F,xZ.F,x6.F,AS,x8.F,AU,x9.F,x_.F,ya.F,Fw,Fx,Fy,yb.F,FA,FD,FF,yc.F,yd.F,AX,FG,ye.F,AY,yf.F,xH,yg.F,yh.F,FJ,xJ,iE,jY,yi.F,AZ,A0,yj.F,yk.F,FO,yl.F,ym.F,yo.F,eG,yp.F,yq.F,yr.F,yt.F,FQ,nM,uv,xK,yu.F,A2,yw.F,yx.F,FU,xM,FW,FY,FZ,se,F0,F1,uz.F⟩
 exact N4 T
theorem walk{aS aC aJ:Nat}{l:Vz}{q:Program}{loose:List Str}{XP:(Str->Option Value)->Heap->Prop}{YP:World->Heap->Prop}{d:DefRec}{K:Params->gV}(hn:l.most=some 63)(hdf:d.params.defaults=[])
  (hY:∀(w:World) (h:Heap),YP w h->(K w.params).In h) (M:∀ns:List Int,ns.length<=63->qD aS aC aJ [.lst (ns.map Dat.int)]=some (.val (.bl true))) (hK:∀w:World,Du (K w.params)=true)
  (F:∀ (w:World) (mg:Str→Option Value) (fa:Addr) (h:Heap),(K w.params).In h→h.Ns mainGlobals mg→mg d.name=some (.ref fa) →
   ∃fd:FuncData,(∀(s:Shared) (u:Value),BindsTo s fd ⟨[u],[]⟩ [("script",u)])/\∀base:Heap,(K w.params).In base->base.Ns mainGlobals mg->aV l.prog w (K w.params) mg base CX0 12 fa fd ["script"] (spD (qD aS aC aJ))) :
  PySem.W.WalkO q loose XP YP l.row.toRowW d [] (fun f vs=>PySem.call f vs):=
 L2.GU (n:=63) (k:=12) (x := "script") (CX:=fun _=>CX0) (sp:=fun _=>spD (qD aS aC aJ)) hn (by decide) hdf ⟨rfl,by decide,by decide,rfl⟩ hY F
  (fun w H a ns hl hO hS=>LY (M ns hl) (hK w) hS) fun _ _ _ _ _ z=>z
open PySem PySem.W PySem.W.X
theorem GF{q:Program}{loose:List Str}{XP:(Str->Option Value)->Heap->Prop}{r:RowW}{d:DefRec}{kwd:List (Str×Expr)}{run:Value->List Value->Sem Value}{K:Params->Frag}{as:List Addr}{n t:Nat}(e:∀P,as=(K P).map (·.1))
  (W:WalkO q loose XP (fun w h=>(K w.params).In h) r d kwd run):WalkX q loose XP (obsZ as) (valZ K n t) r d kwd run:=
 fun w s₀ s₁ mg mb G y a o pm cd doc dV kV ho hd hcd hD hmg hg args vals as' L=>W w s₀ s₁ mg mb G (InK.keeps w _ _ (z_facts e y).2.1 L.keeps) a o pm cd doc dV kV ho hd hcd hD hmg hg args vals as'
end Q
noncomputable def PySem.W.Fast.tw4048812864926909663:PySem.Program:=PySem.Challenge.pw_sinceply_k37_times_refused
theorem PySem.W.Fast.te4048812864926909663:PySem.Challenge.pw_sinceply_k37_times_refused=PySem.W.Fast.tw4048812864926909663:=rfl
namespace PySem.W.Fast
def tw16394649459459569175:=0
def tw7709860353058443982:=0
def tw8020528475225262475:=0
def tw10290902606463272289:=0
def tw15180981744547103377:=0
def tw5768906895816394868:=0
def tw2526594860452735353:=0
def tw10900644686225028614:=0
def tw1539601344808703114:=0
def tw16344663857607718361:=0
def tw10914238532707293833:=0
def tw10947979299423439925:=0
def tw4626175107618509217:=0
def tw7643842154867554616:=0
def tw13479348755588180292:=0
def tw8861024999334346969:=0
def tw6644147321143771856:=0
def tw15145985667875941455:=0
def tw15677637353483380653:=0
def tw16747320067674523325:=0
def tw9871756022594629002:=0
def tw11985614956244275212:=0
def tw9000187383683882326:=0
def tw5583842470609710328:=0
def tw3850558628300118162:=0
def tw17826338836358574149:=0
def tw15227374960291395006:=0
def tw9275208232010274121:=0
def tw7678078444577828208:=0
def tw11230119265001627803:=0
def tw13630914594781363193:=0
def tw9718366296642209837:=0
def tw926207542721112506:=0
def tw16985775952415532093:=0
def tw6684408457469057865:=0
def tw8851871154982085485:=0
def tw8332839387263954511:=0
def tw10436632441464881252:=0
def tw4979579011551396790:=0
def tw17863797185111237831:=0
def tw3563194882828655932:=0
def tw12667250883491125353:=0
def tw6636573392319312783:=0
def tw3051799599411955139:=0
def tw7425727749970956336:=0
def tw915402881191410737:=0
def tw5593256090418398519:=0
def tw2734141514922819388:=0
def tw13834114085093281035:=0
def tw10258523263110919427:=0
def tw5034050718458132173:=0
def tw13728021319035682192:=0
def tw18341078998590654789:=0
def tw12105642651694436688:=0
def tw16231847081263953062:=0
def tw2950959867918601498:=0
def tw16029742003761109313:=0
def tw12978904479557641203:=0
def tw4386599463635903297:=0
def tw4804228952889354663:=0
def tw10307045538076181436:=0
def tw13651422251462492476:=0
def tw2930967215513110044:=0
def tw3081562697644247828:=0
def tw6993826276654497652:=0
def tw4718683818727194191:=0
def tw180009691237523264:=0
def tw14621992975922733692:=0
def tw11372498934728631005:=0
def tw17238445006534233922:=0
def tw6038349158556912662:=0
def tw4093543655038529194:=0
def tw5035720145823953130:=0
def tw14356024289545971872:=0
def tw6140911668896612097:=0
def tw4479165242172042802:=0
def tw12521759442445826336:=0
def tw865962414401272344:=0
def tw16584466372149368025:=0
def tw4030203161614214248:=0
def tw9356145694484846582:=0
def tw7735812979953652054:=0
def tw17500105182757931478:=0
def tw17234734962993229356:=0
def tw7669448888803005047:=0
def tw4101040317598743695:=0
def tw15604684439907027885:=0
def tw15187637945767853821:=0
def tw16818006394329449966:=0
def tw5791109305883109897:=0
def tw17784192677500824241:=0
def tw9442667615527271863:=0
def tw17621059916458140087:=0
def tw16010485803919759268:=0
def tw17684903079890417292:=0
def tw12229510389180172988:=0
def tw13545613809851199967:=0
def tw1997852938679002820:=0
def tw5834056186016131599:=0
def tw13379507940386904015:=0
def tw10318344764483195905:=0
def tw18266180015224413006:=0
def tw4963276723023040127:=0
def tw14580834655113113436:=0
def tw13355679988013028769:=0
def tw8427795979245671880:=0
def tw13396038523387723823:=0
def tw10580844536575761512:=0
def tw13924242658240846078:=0
def tw13519937667514049756:=0
def tw9866052003211641028:=0
def tw562459320214787940:=0
def tw436637753126929077:=0
def tw22105000570886582:=0
def tw1730096570146847673:=0
def tw13596036659774353902:=0
def tw16044120425404942908:=0
def tw16719642384986572254:=0
def tw8715729777602182078:=0
def tw3296621045623461630:=0
def tw7782124436031391626:=0
def tw7983650407835277990:=0
def tw14927247561965503744:=0
def tw9770184765017917278:=0
def tw3459086355823754025:=0
def tw14587436887173137208:=0
def tw16740816092251289149:=0
def tw10233345438606648755:=0
def tw13151092708396292933:=0
def tw18193823229366494467:=0
def tw9355364377955408353:=0
def tw14094312535748782693:=0
def tw14982059757886554076:=0
def tw14474269647417529474:=0
def tw367549711926015396:=0
def tw15220912225596956302:=0
def tw2271846409399134488:=0
def tw8205940884101570027:=0
def tw4691070873293698114:=0
def tw11278480593722247653:=0
def tw10315454404460354494:=0
def tw3830723664535201932:=0
def tw14528963503075096310:=0
def tw10469842378322681841:=0
def tw7028573214922412581:=0
def tw8066638138844509842:=0
def tw1040046320694057729:=0
def tw10135932067907835357:=0
def tw11671421867759543675:=0
def tw10193038677994181062:=0
def tw17151799076679430191:=0
def tw337013107431154811:=0
def tw9586445535054771100:=0
def tw2586320078013738096:=0
def tw11570503588952801745:=0
def tw4088796234627800057:=0
def tw3643670091637804529:=0
def tw9876499084806349168:=0
def tw11281852360678298343:=0
def tw17592002689344206052:=0
def tw1682646591384850272:=0
def tw18344076935103363892:=0
def tw14621990748532938524:=0
def tw1696106280296774222:=0
def tw15370080322537057086:=0
def tw5825541867625371999:=0
def tw7570432643880689567:=0
def tw14170307224311020289:=0
def tw13305993432575718330:=0
def tw15274136182745819917:=0
def tw7983285602254641588:=0
def tw16506435282396159561:=0
def tw12255006649905219575:=0
def tw8373223873388127354:=0
def tw10663091050156222683:=0
def tw1450952794539466315:=0
def tw5848118083296044968:=0
def tw11853358418035367310:=0
def tw12645855103949091528:=0
def tw11465589302002098369:=0
def tw886882646180472380:=0
def tw900420297876791786:=0
def tw17454947438004394214:=0
def tw6502914643857311525:=0
def tw16235680408892414439:=0
def tw18350223654377441007:=0
def tw13010602574840399089:=0
def tw3875269325768752375:=0
def tw14753216110975822414:=0
def tw4262282269562320680:=0
def tw13137523301242966705:=0
def tw16441952657565534950:=0
def tw8948419855503841476:=0
def tw10766804919672589964:=0
def tw10948875733838918260:=0
def tw5520875243207436277:=0
def tw11027645679895784969:=0
def tw13883655514894253680:=0
def tw5758556805249881219:=0
def tw13079347146271769063:=0
def tw16177219134963542371:=0
def tw8377486928127336869:=0
def tw916713028377014299:=0
def tw13413817875434773133:=0
def tw3766482093503191664:=0
def tw14349596600586443066:=0
def tw4822520760135923874:=0
def tw9092757415492309722:=0
def tw6336696877756061489:=0
def tw11009224844123087706:=0
def tw10688006067287242654:=0
def tw11490526295838041960:=0
def tw6836636234687693396:=0
def tw4013337443510923770:=0
def tw6731690960752862938:=0
def tw703949370794173104:=0
def tw9238956718089211636:=0
def tw16521832864077386513:=0
def tw17858612796499400872:=0
def tw11601084086269705661:=0
def tw6692204297965061376:=0
def tw1163606641948061496:=0
def tw3541064948910630510:=0
def tw12024235107866446609:=0
def tw853078784420220128:=0
def tw4199980570422612249:=0
def tw16521668210096182344:=0
def tw10350890089527216744:=0
def tw9371322544701448094:=0
def tw11418206006724778408:=0
def tw8264352535803046299:=0
def tw8835836634182098159:=0
def tw12057237125661745539:=0
def tw17274572637920067447:=0
def tw16778164200213188238:=0
def tw8883230757901435686:=0
def tw773779216495843816:=0
def tw18304767825567961693:=0
def tw16481114596767640057:=0
def tw17125312909220752415:=0
def tw10966964627158565955:=0
def tw12088756474387615083:=0
def tw8118238425337105521:=0
def tw17693083822803646050:=0
def tw15092475161549510979:=0
def tw4805406810208000451:=0
def tw10086204078082670626:=0
def tw9207828646891209669:=0
def tw4369968716802251013:=0
def tw13196704188247129702:=0
def tw9354145809934627803:=0
def tw16592152275667800022:=0
def tw16455417365556099954:=0
def tw2376149387393451761:=0
def tw5870202831730293819:=0
def tw10649694747801476093:=0
def tw14488736618061135590:=0
def tw7411120867680840675:=0
def tw2407902370125631865:=0
def tw8226923184069592477:=0
def tw11819449199194517152:=0
def tw2876931280723744591:=0
def tw11534192387212064940:=0
def tw1895837253228340379:=0
def tw15642036610661445015:=0
def tw17568819771050503768:=0
def tw1284134642977670979:=0
def tw8670373743408539618:=0
def tw5121140347739743540:=0
def tw7302545268786400666:=0
def tw9828733657355204766:=0
def tw6672361939223154835:=0
def tw17691538948969807215:=0
def tw17005753184524083646:=0
def tw6808004596893263552:=0
def tw7391077872754271259:=0
def tw6418298531130996919:=0
def tw7514153963416507040:=0
def tw1918582479941862063:=0
def tw11851695757444181876:=0
def tw15272877449706129185:=0
def tw8568230607202580781:=0
def tw2136745180872304777:=0
def tw10556347040137071055:=0
def tw9166628079313866643:=0
def tw10966307617289420991:=0
def tw8709819302454939845:=0
def tw13012084445065029657:=0
def tw5711822349946095097:=0
def tw16860951286518772801:=0
def tw15366650017559197049:=0
def tw11870193644391571960:=0
def tw7476377787033049284:=0
def tw15278982897478824172:=0
def tw5056526000720725787:=0
def tw875882969724918917:=0
def tw4144360198668392055:=0
def tw9467055774028376779:=0
def tw16965147450108928914:=0
def tw12896806100327683129:=0
def tw339598997058021359:=0
def tw251255875642074362:=0
def tw14219706201122004731:=0
def tw5176409973382340987:=0
def tw11880866836880299237:=0
def tw1824219844684639063:=0
def tw17513731903609882106:=0
def tw10082489576618226232:=0
def tw8734764108553805012:=0
def tw13987605687117381561:=0
def tw76693953389833184:=0
def tw15342401296619367549:=0
def tw10251224109291891903:=0
def tw16153067237823605984:=0
def tw17672193687295803738:=0
def tw1084569027634217990:=0
def tw4507782899162479185:=0
def tw569450789222449440:=0
def tw18411795668899486241:=0
def tw12117850490359305979:=0
def tw7406121291480964338:=0
def tw9328759324156419534:=0
def tw213063280368090779:=0
def tw9627313237233661694:=0
def tw9245071867742166956:=0
def tw8516724806535703705:=0
def tw15278793678438881429:=0
def tw11028688702788303236:=0
def tw8134501649357627610:=0
def tw18023581067079422865:=0
def tw2894017101628259764:=0
def tw14052976115879582968:=0
def tw7140040505620785432:=0
def tw4255937624316596818:=0
def tw10824839037446763918:=0
def tw18112207260982143199:=0
def tw8217254392689215769:=0
def tw6143206319628485893:=0
def tw15495910064993124565:=0
def tw2834536386345895770:=0
def tw7667009281071319321:=0
def tw399388499240759510:=0
def tw575798821559156474:=0
def tw8064074983803815366:=0
def tw18066291579934510221:=0
def tw17334467371137065391:=0
def tw10489913097462007774:=0
def tw2674536254809508906:=0
def tw3604856408049905387:=0
def tw14861385757978986320:=0
def tw6153770112469903606:=0
def tw2462259099445187577:=0
def tw7262791990020398975:=0
def tw10869065829055539636:=0
def tw8910867868014022214:=0
def tw2457328343571471663:=0
def tw7601475267792771165:=0
def tw104850705357193080:=0
end PySem.W.Fast
open PySem PySem.W PyProof.Rows
set_option maxRecDepth 100000 in
set_option maxHeartbeats 0 in
theorem PySem.Challenge.cw_sinceply_k37_times_refused_holds : PySem.Challenge.rw_sinceply_k37_times_refused.Holds := by
 w_on;o_law;z_head;(case hw=>w_witness2)
 k_fill
 refine' Q.GF (fun _=>rfl) (Q.walk (l:=PySem.Challenge.rw_sinceply_k37_times_refused) rfl rfl (fun w h Y=>Y) (P.math _ _ _ ?ne) ?noL ?fnS)
 case noL=>intro w;rfl
 case fnS=>
  intro w mg fa h KX G hmg
  refine' Q.all_mk KX G hmg ?Gh ?Gi ?Gj ?Gk ?Gm ?Gn ?Gp ?Gq ?Gr ?Gs ?xT ?xU ?xV ?xW ?xX ?xY ?xZ ?x6 ?x8 ?x9 ?x_ ?ya ?yb ?yc ?yd ?ye ?yf ?yg ?yh ?Gu ?Gv ?Gw ?Gx ?A6 ?yi ?yj ?yk ?yl ?ym ?yo ?yp ?yq ?yr ?yt ?yu ?yw ?yx ?uz ?iu ?Gy ?zV ?zW ?jo ?Gz ?iw ?GA ?zX ?GB ?GC ?vK ?lE ?sC ?vL ?GD ?jq ?iy ?pI ?m6 ?lF ?sD ?lG ?jr ?lH ?lI ?lJ ?lM ?lO ?lP ?gj ?gC ?gD ?gE ?gF ?gG ?gH ?iz ?jt ?ju ?jv ?jx ?jy ?jz ?cg ?cJ ?cF ?dI ?dJ ?dM ?cG ?dB ?c_ ?cH ?dD ?dc ?dF ?e8 ?eL ?dg ?eN ?dR ?bK ?bY ?bU
  case Gh|Gi|Gj|Gk|Gm|Gn|Gp|Gq|Gr|Gs|xT|xU|xV|xW|xX|xY|xZ|x6|x8|x9|x_|ya|yb|yc|yd|ye|yf|yg|yh=>refine' Br.aL ?e ?l ?c ?k;(case e=>k_is);(case l=>k_is);(case c=>k_is);(case k=>k_is)
  case Gu|Gv|Gw|Gx|A6=>k_is
  case yi|yj|yk|yl|ym|yo|yp|yq|yr|yt|yu|yw|yx|uz=>refine' Br.aL ?e ?l ?c ?k;(case e=>k_is);(case l=>k_is);(case c=>k_is);(case k=>k_is)
  case iu|Gy|zV|zW|jo|Gz|iw|GA|zX|GB|GC|vK|lE|sC|vL|GD|jq|iy|pI|m6|lF|sD|lG=>k_is
  case jr|lH|lI|lJ|lM|lO|lP|gj|gC|gD|gE|gF|gG|gH|iz|jt|ju|jv|jx|jy|jz|cg|cJ|cF|dI|dJ|dM|cG|dB|c_|cH|dD|dc|dF|e8|eL|dg|eN|dR|bK|bY|bU=>first | k_is | kit_is | kernel_rfl
 case ne=>decide
end
