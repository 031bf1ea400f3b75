import PyProof.Rows.All
import Wide.All
import OpenK.AllK
import Wide.FinOn
import Lean
import PyProof.EqAt
import PyProof.EqKinds
import PyProof.TupleCall
import KE.KRevIter
import PyProof.EnumMake
import PyProof.EnumFor
import PyProof.ListRange
import PyProof.Rows.Range3
import PyProof.ZipIter
import PyProof.SumWalk
import PyProof.WalksMore
import PyProof.Rows.SetFrom
import PyProof.SetRoads
import PyProof.Rows.SortRunsK
import PyProof.Rows.SortWalk
import KE.KSortTup
import PyProof.Rows.Own
import PyProof.StationsW
import OpenK.KRaise
import KE.KIsAll
import PyProof.ExcArgsOwn
import PyProof.RulesAs
import PyProof.Ns1
import PyProof.Rows.Catch
import OpenK.KOwn
import PyProof.ExcBaseAll.ValueError
import KE.KDictSum
import PyProof.AttrMiss
import PyProof.IsiH_list
import KE.KDictOf
import PyProof.DictList
import PySem.Challenge.RW_sinceply_k52_lightest_told
noncomputable section
set_option Elab.async false
set_option linter.all false

set_option maxRecDepth 100000
namespace L2
open PySem PySem.Spec PyProof.Rows
abbrev Key := Sum Int Str
def keyIs : Key → Value → Bool
 | .inl k,v => Value.isInt k v
 | .inr x,v => Value.isStrOf x v
def keyH (w : World) : Key → Int
 | .inl k => hashInt k
 | .inr x => hashStr w x
theorem keyIs_shape : ∀ {k : Key} {v : Value},keyIs k v = true → (∃ i t,k = Sum.inl i ∧ v = Value.int i t) ∨ (∃ x t,k = Sum.inr x ∧ v = Value.str x t)
 | .inl i,v,h => by
  obtain ⟨t,e⟩ := Value.isInt_shape (k := i) (v := v) h
  exact .inl ⟨i,t,rfl,e⟩
 | .inr x,v,h => by
  obtain ⟨t,e⟩ := Value.isStrOf_shape (x := x) (v := v) h
  exact .inr ⟨x,t,rfl,e⟩
theorem keyIs_int (i : Int) (t : Tok) : keyIs (.inl i) (.int i t) = true := by simp [keyIs,Value.isInt]
theorem keyIs_str (x : Str) (t : Tok) : keyIs (.inr x) (.str x t) = true := by simp [keyIs,Value.isStrOf]
theorem key_ll (a b : Int) : decide ((Sum.inl a : Key) = Sum.inl b) = (a == b) := by
 by_cases e : a = b
 ·subst e; simp
 ·have h : ¬ (Sum.inl a : Key) = Sum.inl b := fun q => e (Sum.inl.inj q)
  rw [decide_eq_false h]
  exact (beq_eq_false_iff_ne.mpr e).symm
theorem key_rr (a b : Str) : decide ((Sum.inr a : Key) = Sum.inr b) = decide (a = b) := by
 by_cases e : a = b
 ·subst e; simp
 ·have h : ¬ (Sum.inr a : Key) = Sum.inr b := fun q => e (Sum.inr.inj q)
  rw [decide_eq_false h,decide_eq_false e]
theorem key_lr (a : Int) (b : Str) : decide ((Sum.inl a : Key) = Sum.inr b) = false := decide_eq_false (fun q => nomatch q)
theorem key_rl (a : Str) (b : Int) : decide ((Sum.inr a : Key) = Sum.inl b) = false := decide_eq_false (fun q => nomatch q)
def mixKind (prog : Program) (w : World) : PySem.KeyKind prog w Key where
 is := keyIs
 hash := keyH w
 inj := fun v a b ha hb => by
  rcases keyIs_shape ha with ⟨i,t,rfl,rfl⟩ | ⟨x,t,rfl,rfl⟩
  ·rcases keyIs_shape hb with ⟨j,u,rfl,e⟩ | ⟨y,u,rfl,e⟩
   ·injection e with e1 _; rw [e1]
   ·exact nomatch e
  ·rcases keyIs_shape hb with ⟨j,u,rfl,e⟩ | ⟨y,u,rfl,e⟩
   ·exact nomatch e
   ·injection e with e1 _; rw [e1]
 byValue := fun k v h => by
  rcases keyIs_shape h with ⟨i,t,rfl,rfl⟩ | ⟨x,t,rfl,rfl⟩ <;> rfl
 pyHash := fun hv h => by
  rcases keyIs_shape hv with ⟨i,t,rfl,rfl⟩ | ⟨x,t,rfl,rfl⟩
  ·exact wpAny_pyHash_int h
  ·exact wpAny_pyHash_str h
 eqBool := fun hu hv h => by
  rcases keyIs_shape hu with ⟨i,t,rfl,rfl⟩ | ⟨x,t,rfl,rfl⟩
  ·rcases keyIs_shape hv with ⟨j,u,rfl,rfl⟩ | ⟨y,u,rfl,rfl⟩
   ·rw [key_ll] at h; exact wpAny_eqBool_int h
   ·rw [key_lr] at h; exact SeqAt.EqAt.int_str i t y u _ _ _ _ h
  ·rcases keyIs_shape hv with ⟨j,u,rfl,rfl⟩ | ⟨y,u,rfl,rfl⟩
   ·rw [key_rl] at h; exact SeqAt.EqAt.str_int x t j u _ _ _ _ h
   ·rw [key_rr] at h; exact wpAny_eqBool_str h
 «strs» := fun k x t v h => by
  rcases keyIs_shape h with ⟨i,u,rfl,e⟩ | ⟨y,u,rfl,e⟩
  ·exact nomatch e
  ·injection e with e1 _
   subst e1
   cases v <;> rfl
theorem mixKind_int (prog : Program) (w : World) (i : Int) (t : Tok) : (mixKind prog w).is (.inl i) (.int i t) = true := keyIs_int i t
theorem mixKind_str (prog : Program) (w : World) (x : Str) (t : Tok) : (mixKind prog w).is (.inr x) (.str x t) = true := keyIs_str x t
inductive V where
 | non | bl (b : Bool) | int (i : Int) | str (x : Str) | byt (b : Array UInt8) | flt (b : UInt64) | ref (a : Addr) | ty (n : String)
 deriving DecidableEq
def RelV : V → Value → Prop
 | .non,u => u = Value.none
 | .bl b,u => u = Value.bool b
 | .int i,u => ∃ t,u = Value.int i t
 | .str x,u => ∃ t,u = Value.str x t
 | .byt b,u => ∃ t,u = Value.bytes b t
 | .flt b,u => ∃ t,u = Value.float b t
 | .ref a,u => u = Value.ref a
 | .ty n,u => u = Value.type n
abbrev Vals : List V → List Value → Prop := Paired RelV
theorem Vals.length {xs : List V} {us : List Value} (r : Vals xs us) : xs.length = us.length := Paired.length r
theorem Vals.get : ∀ {xs : List V} {us : List Value} {i : Nat} {x : V},Vals xs us → xs[i]? = some x → ∃ u,us[i]? = some u ∧ RelV x u
 | _,_,_,_,.nil,e => by simp at e
 | _,_,0,_,.cons r _,e => by simp at e; subst e; exact ⟨_,rfl,r⟩
 | _,_,i + 1,x,.cons _ t,e => by
  obtain ⟨u,h1,h2⟩ := Vals.get (i := i) (x := x) t (by simpa using e)
  exact ⟨u,by simpa using h1,h2⟩
theorem Vals.set {x : V} {u : Value} (r : RelV x u) : ∀ {xs : List V} {us : List Value} (i : Nat),Vals xs us → Vals (xs.set i x) (us.set i u)
 | _,_,_,.nil => .nil
 | _,_,0,.cons _ t => .cons r t
 | _,_,i + 1,.cons q t => .cons q (Vals.set r i t)
theorem Vals.append : ∀ {xs ys : List V} {us ws : List Value},Vals xs us → Vals ys ws → Vals (xs ++ ys) (us ++ ws)
 | _,_,_,_,.nil,s => s
 | _,_,_,_,.cons r t,s => .cons r (Vals.append t s)
theorem Vals.take : ∀ {xs : List V} {us : List Value} (n : Nat),Vals xs us → Vals (xs.take n) (us.take n)
 | _,_,0,_ => .nil
 | _,_,_ + 1,.nil => .nil
 | _,_,n + 1,.cons r t => .cons r (Vals.take n t)
theorem Vals.drop : ∀ {xs : List V} {us : List Value} (n : Nat),Vals xs us → Vals (xs.drop n) (us.drop n)
 | _,_,0,r => r
 | _,_,_ + 1,.nil => .nil
 | _,_,n + 1,.cons _ t => Vals.drop n t
def RelO : Option V → Option Value → Prop
 | some v,some u => RelV v u
 | none,none => True
 | _,_ => False
def KV {κ : Type} : List (κ × V) → List (κ × Value) → Prop := Paired fun (p : κ × V) (q : κ × Value) => p.1 = q.1 ∧ RelV p.2 q.2
def kV : Key → V
 | .inl i => .int i
 | .inr x => .str x
inductive HO where
 | lst (xs : List V)
 | tup (xs : List V)
 | dK (kvs : List (Key × V)) | dT (kvs : List (List Key × V))
 | set (S : Int → Bool) (n : Nat)
 | ins (C dx : Addr) (fs : List (Str × V))
 | own (x : Addr)
 | xd (fs : List (Str × V))
 | met (f x : Addr)
 | rng (lo hi : Int)
 | frz (o : Obj) (u : HO)
 | tbl (ps : Array Value)
 | ext (φ : Heap → Prop)
abbrev Hp := Addr → Option HO
def upd (H : Hp) (a : Addr) (o : HO) : Hp := fun b => if b = a then some o else H b
theorem upd_same {H : Hp} {a : Addr} {o : HO} : upd H a o a = some o := by unfold upd; rw [if_pos rfl]
theorem upd_ne {H : Hp} {a b : Addr} {o : HO} (h : b ≠ a) : upd H a o b = H b := by unfold upd; rw [if_neg h]
theorem ne_of {H : Hp} {a b : Addr} {o u : HO} (h : H a = some o) (h' : H b = some u) (d : o ≠ u) : a ≠ b := by
 intro e; subst e; rw [h] at h'; exact d (Option.some.inj h')
theorem ne_of_none {H : Hp} {a b : Addr} {o : HO} (h : H a = some o) (h' : H b = none) : a ≠ b := by
 intro e; subst e; rw [h] at h'; cases h'
section
variable (P : Program) (w : World)
def ObjOk (H : Hp) (h : Heap) (a : Addr) : HO → Prop
 | .lst xs => xs.length ≤ sizeLine ∧ ∃ (its : List Value) (n : Nat), Vals xs its ∧ h.get? a = some { cls := .type "list", data := .seq its.toArray n }
 | .tup xs => xs.length ≤ sizeLine ∧ ∃ its : List Value,Vals xs its ∧ IsTup h a its.toArray
 | .dK kvs => kvs.length ≤ sizeLine ∧ (a == sysModules) = false ∧ ∃ vs,KV kvs vs ∧ h.DictOf (mixKind P w) a vs
 | .dT kvs => kvs.length ≤ sizeLine ∧ (a == sysModules) = false ∧ ∃ xs : List (List Key × Addr × Value),
   Paired (fun (p : List Key × V) (q : List Key × Addr × Value) => p.1 = q.1 ∧ H q.2.1 = some (.tup (p.1.map kV)) ∧ RelV p.2 q.2.2) kvs xs ∧
   ∃ o es ep,h.get? a = some o ∧ o.ExactDict ∧ o.data = .dict es ep ∧ es.toList = xs.map (entryOfKey (tupleKind (mixKind P w))) ∧ (xs.map (·.1)).Nodup
 | .set S n => h.SetOf (intKind P w) a S n
 | .ins C dx fs => H dx = some (.own a) ∧ fs.length ≤ 1000 ∧ dx ≠ a ∧ h.get? a = some (PySem.W.instObj C dx) ∧
   ∃ mA,h.Ns1 dx mA ∧ (∀ f,RelO (fs.lookup f) (mA f)) ∧ PySem.Within mA (fs.map (·.1))
 | .own _ => ∃ o,h.get? a = some o
 | .xd fs => ∃ mA,h.Ns1 a mA ∧ ∀ f,RelO (fs.lookup f) (mA f)
 | .rng lo hi => ∃ t u v, h.get? a = some { cls := .type "range", data := .fields #[.int lo t, .int hi u, .int 1 v] }
 | .frz o u => h.get? a = some o ∧ ObjOk H h a u
 | .tbl ps => h.get? a = some { cls := .none,data := .fields ps }
 | .met f x => h.get? a = some (PySem.W.methodObj (.ref f) (.ref x))
 | .ext φ => φ h ∧ (∃ o,h.get? a = some o) ∧ ∀ h1 h2 : Heap,φ h1 → (∀ o,h1.get? a = some o → h2.get? a = some o) → φ h2
def HOk (H : Hp) (h : Heap) : Prop := ∀ a o,H a = some o → ObjOk P w H h a o
end
section
variable {P : Program} {w : World} {H H' : Hp} {h h' : Heap} {a : Addr} {o : HO}
theorem ObjOk.lt (x : ObjOk P w H h a o) : a < h.objs.size := by
 cases o with
 | lst xs => obtain ⟨_,_,_,_,e⟩ := x; exact Heap.lt_size e
 | tup xs => obtain ⟨_,_,_,p⟩ := x; exact p.lt
 | dK kvs => obtain ⟨_,_,_,_,o,_,_,e,_⟩ := x; exact Heap.lt_size e
 | dT kvs => obtain ⟨_,_,_,_,o,_,_,e,_⟩ := x; exact Heap.lt_size e
 | set S n => obtain ⟨o,_,_,_,e,_⟩ := x; exact Heap.lt_size e
 | ins C dx fs => obtain ⟨_,_,_,e,_⟩ := x; exact Heap.lt_size e
 | own y => obtain ⟨_,e⟩ := x; exact Heap.lt_size e
 | xd fs => obtain ⟨_,⟨_,_,_,e,_⟩,_⟩ := x; exact Heap.lt_size e
 | rng lo hi => obtain ⟨_,_,_,e⟩ := x; exact Heap.lt_size e
 | frz ob u => obtain ⟨e,_⟩ := x; exact Heap.lt_size e
 | tbl ps => exact Heap.lt_size (show h.get? a = some _ from x)
 | met f y => exact Heap.lt_size (show h.get? a = some _ from x)
 | ext φ => obtain ⟨_,⟨_,e⟩,_⟩ := x; exact Heap.lt_size e
theorem Paired.mapP {α β : Type} {F G : α → β → Prop} : ∀ {l₁ : List α} {l₂ : List β},Paired F l₁ l₂ → (∀ a b,F a b → G a b) → Paired G l₁ l₂
 | _,_,.nil,_ => .nil
 | _,_,.cons r t,f => .cons (f _ _ r) (Paired.mapP t f)
theorem ObjOk.stay (x : ObjOk P w H h a o) (k : ∀ b u,(b = a ∨ H b = some (.own a)) → h.get? b = some u → h'.get? b = some u)
  (ho : ∀ b,H b = some (.own a) → H' b = some (.own a)) (ht : ∀ b xs,H b = some (.tup xs) → H' b = some (.tup xs)) : ObjOk P w H' h' a o := by
 induction o with
 | lst xs => obtain ⟨z,its,n,r,e⟩ := x; exact ⟨z,its,n,r,k _ _ (.inl rfl) e⟩
 | tup xs => obtain ⟨z,its,r,ob,e,c⟩ := x; exact ⟨z,its,r,ob,k _ _ (.inl rfl) e,c⟩
 | dK kvs => obtain ⟨z,y,vs,r,ob,es,ep,e,c⟩ := x; exact ⟨z,y,vs,r,ob,es,ep,k _ _ (.inl rfl) e,c⟩
 | dT kvs =>
  obtain ⟨z,y,xs,r,ob,es,ep,e,c⟩ := x
  exact ⟨z,y,xs,Paired.mapP r fun p q z => ⟨z.1,ht _ _ z.2.1,z.2.2⟩,ob,es,ep,k _ _ (.inl rfl) e,c⟩
 | set S n => obtain ⟨ob,es,ep,t,e,c⟩ := x; exact ⟨ob,es,ep,t,k _ _ (.inl rfl) e,c⟩
 | ins C dx fs =>
  obtain ⟨d,z,ne,e,mA,⟨od,es,ep,e2,c⟩,r⟩ := x
  exact ⟨ho _ d,z,ne,k _ _ (.inl rfl) e,mA,⟨od,es,ep,k _ _ (.inr d) e2,c⟩,r⟩
 | own y => obtain ⟨ob,e⟩ := x; exact ⟨ob,k _ _ (.inl rfl) e⟩
 | xd fs => obtain ⟨mA,⟨od,es,ep,e,c⟩,r⟩ := x; exact ⟨mA,⟨od,es,ep,k _ _ (.inl rfl) e,c⟩,r⟩
 | rng lo hi => obtain ⟨t,u,v,e⟩ := x; exact ⟨t,u,v,k _ _ (.inl rfl) e⟩
 | frz ob u ih => obtain ⟨e,q⟩ := x; exact ⟨k _ _ (.inl rfl) e,ih q⟩
 | tbl ps =>
  have e : h.get? a = some { cls := .none,data := .fields ps } := x
  show h'.get? a = some { cls := .none,data := .fields ps }
  exact k a _ (.inl rfl) e
 | met f y =>
  have e : h.get? a = some (PySem.W.methodObj (.ref f) (.ref y)) := x
  show h'.get? a = some (PySem.W.methodObj (.ref f) (.ref y))
  exact k a _ (.inl rfl) e
 | ext φ => obtain ⟨p,⟨o,e⟩,st⟩ := x; exact ⟨st _ _ p fun o q => k _ _ (.inl rfl) q,⟨o,k _ _ (.inl rfl) e⟩,st⟩
theorem HOk.lt (x : HOk P w H h) (e : H a = some o) : a < h.objs.size := (x a o e).lt
theorem HOk.fresh (x : HOk P w H h) (e : h.objs.size ≤ a) : H a = none := by
 cases q : H a with
 | none => rfl
 | some u => exact absurd (Nat.lt_of_lt_of_le (x.lt q) e) (Nat.lt_irrefl _)
theorem HOk.kept (x : HOk P w H h) (k : ∀ b u,h.get? b = some u → h'.get? b = some u) : HOk P w H h' := fun a o e =>
 (x a o e).stay (fun b u _ q => k b u q) (fun _ q => q) fun _ _ q => q
theorem HOk.laid (x : HOk P w H h) (k : ∀ b u,h.get? b = some u → h'.get? b = some u) (hp : h.objs.size ≤ a) (new : ObjOk P w (upd H a o) h' a o) : HOk P w (upd H a o) h' := fun b u e => by
 have hn := x.fresh hp
 by_cases hb : b = a
 ·subst hb; rw [upd_same] at e; cases e; exact new
 ·rw [upd_ne hb] at e
  exact (x b u e).stay (fun c v _ q => k c v q) (fun c q => by rw [upd_ne (ne_of_none q hn)]; exact q) fun c xs q => by rw [upd_ne (ne_of_none q hn)]; exact q
end
def Rd (H : Hp) (a : Addr) (u : HO) : Prop := H a = some u ∨ ∃ o,H a = some (.frz o u)
theorem Rd.ok {P : Program} {w : World} {H : Hp} {h : Heap} {a : Addr} {u : HO} (r : Rd H a u) (x : HOk P w H h) : ObjOk P w H h a u := by
 rcases r with r | ⟨o,r⟩
 ·exact x a u r
 ·obtain ⟨_,q⟩ := x a _ r
  exact q
def Mut : Option HO → Prop
 | some (.lst _) => True
 | some (.dK _) => True
 | some (.dT _) => True
 | some (.set _ _) => True
 | some (.ins _ _ _) => True
 | some (.ext _) => True
 | _ => False
section
variable {P : Program} {w : World} {H : Hp} {h h' : Heap} {x e : Addr} {o' : HO}
theorem HOk.write (ok : HOk P w H h) (mu : Mut (H x)) (he : e = x ∨ H e = some (.own x)) (k : ∀ b u,b ≠ e → h.get? b = some u → h'.get? b = some u) (heo : ∃ u,h'.get? e = some u)
  (new : ObjOk P w (upd H x o') h' x o') : HOk P w (upd H x o') h' := fun b u q => by
 have nown : ∀ c y,H c = some (.own y) → c ≠ x := fun c y r z => by subst z; rw [r] at mu; exact mu
 have ntup : ∀ c xs,H c = some (.tup xs) → c ≠ x := fun c xs r z => by subst z; rw [r] at mu; exact mu
 by_cases hb : b = x
 ·subst hb; rw [upd_same] at q; cases q; exact new
 ·rw [upd_ne hb] at q
  by_cases hbe : b = e
  ·have q' : H b = some (.own x) := by
    rcases he with z | z
    ·exact absurd (hbe.trans z) hb
    ·rw [hbe]; exact z
   rw [q] at q'; cases q'
   obtain ⟨v,hv⟩ := heo
   exact ⟨v,by rw [hbe]; exact hv⟩
  ·refine (ok b u q).stay (fun c v hc r => k c v ?_ r) (fun c r => by rw [upd_ne (nown c b r)]; exact r) fun c xs r => by rw [upd_ne (ntup c xs r)]; exact r
   rcases hc with rfl | hc
   ·exact hbe
   ·rintro rfl
    rcases he with z | z
    ·exact nown c b hc z
    ·rw [hc] at z; cases z; exact hb rfl
end
structure Un (fs ex : List Addr) (H H' : Hp) (h h' : Heap) : Prop where
 keep : ∀ b o,h.get? b = some o → H b = none → b ∉ fs → b ∉ ex → h'.get? b = some o
 slot : ∀ b o,h.get? b = some o → H b = none → b ∈ fs → b ∉ ex → ∃ sl,h'.get? b = some { o with slots := sl }
 free : ∀ b o,h.get? b = some o → H b = none → b ∉ ex → H' b = none
 there : ∀ b o,h.get? b = some o → b ∉ ex → ∃ o',h'.get? b = some o'
 tups : ∀ b xs,H b = some (.tup xs) → H' b = some (.tup xs)
 frzs : ∀ b o u,H b = some (.frz o u) → H' b = some (.frz o u)
 tbls : ∀ b ps,H b = some (.tbl ps) → ∃ more,H' b = some (.tbl (ps ++ more))
section
variable {fs fs' ex ex' : List Addr} {H H1 H2 : Hp} {h h1 h2 h' : Heap} {a x e : Addr} {o : HO}
theorem Un.any (u : Un fs ex H H1 h h1) {b : Addr} {ob : Obj} (q : h.get? b = some ob) (n : H b = none) (hx : b ∉ ex) : ∃ sl,h1.get? b = some { ob with slots := sl } := by
 by_cases hb : b ∈ fs
 ·exact u.slot b ob q n hb hx
 ·exact ⟨ob.slots,u.keep b ob q n hb hx⟩
theorem Un.kept (k : ∀ b u,h.get? b = some u → h'.get? b = some u) : Un fs ex H H h h' :=
 ⟨fun b ob q _ _ _ => k b ob q,fun b ob q _ _ _ => ⟨ob.slots,k b ob q⟩,fun _ _ _ n _ => n,fun b ob q _ => ⟨ob,k b ob q⟩,fun _ _ q => q,fun _ _ _ q => q,fun _ ps q => ⟨#[],by rw [q]; simp⟩⟩
theorem Un.refl : Un fs ex H H h h := Un.kept fun _ _ q => q
theorem Un.laid (k : ∀ b u,h.get? b = some u → h'.get? b = some u) (hp : h.objs.size ≤ a) (hn : H a = none) : Un fs ex H (upd H a o) h h' where
 keep := fun b u q _ _ _ => k b u q
 slot := fun b u q _ _ _ => ⟨u.slots,k b u q⟩
 free := fun b u q n _ => by rw [upd_ne (Nat.ne_of_lt (Nat.lt_of_lt_of_le (Heap.lt_size q) hp))]; exact n
 there := fun b u q _ => ⟨u,k b u q⟩
 tups := fun b xs q => by rw [upd_ne (ne_of_none q hn)]; exact q
 frzs := fun b u xs q => by rw [upd_ne (ne_of_none q hn)]; exact q
 tbls := fun b ps q => ⟨#[],by rw [upd_ne (ne_of_none q hn),q]; simp⟩
theorem Un.write (mu : Mut (H x)) (he : e = x ∨ H e = some (.own x)) (k : ∀ b u,b ≠ e → h.get? b = some u → h'.get? b = some u) (heo : ∃ u,h'.get? e = some u) : Un fs ex H (upd H x o) h h' := by
 have hx : ∀ b,H b = none → b ≠ x := fun b n z => by subst z; rw [n] at mu; exact mu
 have hb : ∀ b,H b = none → b ≠ e := fun b n z => by
  subst z
  rcases he with r | r
  ·exact hx b n r
  ·rw [n] at r; cases r
 have hm : ∀ b u,H b = some u → ¬ Mut (some u) → b ≠ x := fun b u q nm z => by subst z; rw [q] at mu; exact nm mu
 refine ⟨fun b u q n _ _ => k b u (hb b n) q,fun b u q n _ _ => ⟨u.slots,k b u (hb b n) q⟩,fun b u q n _ => by rw [upd_ne (hx b n)]; exact n,fun b u q _ => ?_,
  fun b xs q => by rw [upd_ne (hm b _ q fun z => z)]; exact q,fun b u xs q => by rw [upd_ne (hm b _ q fun z => z)]; exact q,fun b ps q => ⟨#[],by rw [upd_ne (hm b _ q fun z => z),q]; simp⟩⟩
 by_cases hbe : b = e
 ·subst hbe; exact heo
 ·exact ⟨u,k b u hbe q⟩
end
def trk (h : Heap) (H : Hp) : List Addr := (List.range h.objs.size).filter fun a => (H a).isSome
def hidT (h : Heap) (H : Hp) : Heap := PySem.W.hideAll h (trk h H)
theorem hidT_size (h : Heap) (H : Hp) : (hidT h H).objs.size = h.objs.size := PySem.W.hideAll_size _ _
theorem hidT_get {h : Heap} {H : Hp} {b : Addr} {o : Obj} (e : h.get? b = some o) (n : H b = none) : (hidT h H).get? b = some o :=
 PySem.W.hideAll_get _ e fun hm => by
  have q : (H b).isSome = true := (List.mem_filter.mp hm).2
  rw [n] at q; simp at q
theorem of_hidT {h : Heap} {H : Hp} {b : Addr} {o : Obj} (e : (hidT h H).get? b = some o) : h.get? b = some o ∧ H b = none := by
 have e' : h.get? b = some o := PySem.W.of_hideAll (trk h H) e
 refine ⟨e',?_⟩
 cases q : H b with
 | none => rfl
 | some x =>
  have hm : b ∈ trk h H := List.mem_filter.mpr ⟨List.mem_range.mpr (Heap.lt_size e'),by simp [q]⟩
  have z : (hidT h H).get? b = none := PySem.W.hideAll_none (trk h H) hm
  rw [z] at e; cases e
structure Mod (K : PySem.W.Frag) (mg : Str → Option Value) (base : Heap) : Prop where
 kin : K.In base
 glob : base.Ns mainGlobals mg
 blt : ∃ mb, base.Ns builtinsNs mb ∧ ∀ x : Str, x ≠ "__name__" → mb x = bootBuiltins x
 nolimit : base.NoLimit
structure Cx where
 prog : Program
 w : World
 K : PySem.W.Frag
 mg : Str → Option Value
 base : Heap
 A : Around
 N : List Str
 s₀ : Shared
 H₀ : Hp
 env : Env
 outer : List Env
 stack : List Env
 ex : List Addr
 fn : Str → Bool
 calm : Bool
 pn : List (Addr × Obj)
 xe : Value → Shared → Prop
def frs (l : List Env) : List Addr := l.filterMap (·.frame)
abbrev Cx.fs (X : Cx) : List Addr := frs X.outer
def Vis (sc : Scope) (x : Str) : Prop := sc.names.lookup x = some .local ∨ sc.names.lookup x = some .cell ∨ sc.names.lookup x = some .free
def Loc (sc : Scope) (x : Str) : Prop := sc.names.lookup x = some .local ∨ sc.names.lookup x = some .cell
def Look (env : Env) (h : Heap) (m : Str → Option Value) (x : Str) (u : Value) : Prop :=
 (env.kindOf x = some .local ∧ m x = some u) ∨ ((env.kindOf x = some .cell ∨ env.kindOf x = some .free) ∧ ∃ c,env.cells.lookup x = some c ∧ h.IsCell c (some u))
structure Cx.Ok (X : Cx) : Prop where
 mod : Mod X.K X.mg X.base
 kind : X.env.scope.kind = .function
 glob : X.env.globals = mainGlobals
 blt : X.env.builtins = builtinsNs
 above : X.s₀.heap.objs.size ≤ X.env.locals
 inj : ∀ x y c,X.env.cells.lookup x = some c → X.env.cells.lookup y = some c → x = y
 has : ∀ x,(X.env.kindOf x = some .cell ∨ X.env.kindOf x = some .free) → ∃ c,X.env.cells.lookup x = some c
 cab : ∀ x c,X.fn x = true → X.env.cells.lookup x = some c → X.s₀.heap.objs.size ≤ c
 hd : X.calm = true → X.A.handled = none
 frames : X.A.frames = some X.stack
 stk : X.stack = X.outer ∨ (X.stack = X.env :: X.outer ∧ X.env.frame = some X.env.locals)
 exf : ∀ b ∈ X.ex,b ≠ X.env.locals ∧ ∀ x c,X.env.cells.lookup x = some c → c ≠ b
 bs : ∀ b o,X.base.get? b = some o → X.s₀.heap.get? b = some o ∧ X.H₀ b = none
 bsz : X.base.objs.size ≤ X.s₀.heap.objs.size
 noex : ∀ b o,X.base.get? b = some o → b ∉ X.ex
 exfs : ∀ b ∈ X.ex,b ∉ X.fs
 funs : X.s₀.heap.FunFrames X.base X.outer
 frf : ∀ b ∈ X.fs,X.H₀ b = none
structure Inv (X : Cx) (pins : List (Addr × Obj)) (σ : List (Option V)) (H : Hp) (s : Shared) : Prop where
 ok : X.Ok
 os : s.os = X.s₀.os
 bare : AllBare s.gens
 base : Un X.fs X.ex X.H₀ H X.s₀.heap s.heap
 loc : ∃ m,s.heap.Ns X.env.locals m ∧ ∀ (i : Nat) (x : Str) (v : V),X.N[i]? = some x → σ[i]? = some (some v) → Vis X.env.scope x → ∃ u,RelV v u ∧ Look X.env s.heap m x u
 cell : ∀ x c,X.env.cells.lookup x = some c → ∃ v,s.heap.IsCell c v
 free : H X.env.locals = none
 freeC : ∀ x c,X.env.cells.lookup x = some c → H c = none
 pin : ∀ p ∈ X.pn ++ pins,s.heap.get? p.1 = some p.2 ∧ H p.1 = none ∧ p.1 ≠ X.env.locals ∧ p.1 ∉ X.fs ∧ ∀ v,p.2.data ≠ .cell v
 hok : HOk X.prog X.w H s.heap
 len : σ.length = X.N.length
section
variable {X : Cx} {pins : List (Addr × Obj)} {σ : List (Option V)} {H H' : Hp} {s : Shared} {h' : Heap}
theorem Cx.Ok.nofr (ok : X.Ok) {b : Addr} {o : Obj} (e : X.base.get? b = some o) : b ∉ X.fs := fun hb => by
 have := (ok.funs.mem hb).1
 rw [e] at this; cases this
theorem Inv.bs (I : Inv X pins σ H s) : ∀ b o,X.base.get? b = some o → s.heap.get? b = some o ∧ H b = none := fun b o e =>
 ⟨I.base.keep b o (I.ok.bs b o e).1 (I.ok.bs b o e).2 (I.ok.nofr e) (I.ok.noex b o e),I.base.free b o (I.ok.bs b o e).1 (I.ok.bs b o e).2 (I.ok.noex b o e)⟩
theorem Inv.bk (I : Inv X pins σ H s) : ∀ b o,X.base.get? b = some o → s.heap.get? b = some o := fun b o e => (I.bs b o e).1
theorem Inv.mod (I : Inv X pins σ H s) : Mod X.K X.mg X.base := I.ok.mod
theorem Inv.kIn (I : Inv X pins σ H s) : X.K.In s.heap := I.ok.mod.kin.keeps I.bk
theorem Inv.lt (I : Inv X pins σ H s) : X.env.locals < s.heap.objs.size := let ⟨_,hn,_⟩ := I.loc; hn.lt
theorem Inv.sz (I : Inv X pins σ H s) : X.s₀.heap.objs.size ≤ s.heap.objs.size := Nat.le_trans I.ok.above (Nat.le_of_lt I.lt)
theorem Inv.nofs (I : Inv X pins σ H s) {a : Addr} (h : s.heap.objs.size ≤ a) : a ∉ X.fs := fun hb => by
 obtain ⟨_,o,ho,_⟩ := I.ok.funs.mem hb
 exact absurd (Nat.lt_of_lt_of_le (Heap.lt_size ho) (Nat.le_trans I.sz h)) (Nat.lt_irrefl _)
theorem Inv.cne (I : Inv X pins σ H s) : ∀ x c,X.env.cells.lookup x = some c → c ≠ X.env.locals := fun x c e z => by
 obtain ⟨v,o,ho,hd⟩ := I.cell x c e
 obtain ⟨m,⟨o',es,ep,ho',hd',_⟩,_⟩ := I.loc
 rw [z,ho'] at ho; cases ho; rw [hd'] at hd; cases hd
theorem Inv.funs (I : Inv X pins σ H s) : s.heap.FunFrames X.base X.outer := by
 have all : ∀ (l : List Env),(∀ b ∈ frs l,b ∈ X.fs) → X.s₀.heap.FunFrames X.base l → s.heap.FunFrames X.base l := by
  intro l
  induction l with
  | nil => intro _ _; trivial
  | cons env r ih =>
   intro hs hl
   obtain ⟨hk,⟨L,o,hf,hn,ho,hd⟩,hr⟩ := hl
   have hL : L ∈ X.fs := hs L (by unfold frs; rw [List.filterMap_cons,hf]; exact List.mem_cons_self)
   obtain ⟨sl,e⟩ := I.base.slot L o ho (I.ok.frf L hL) hL fun z => I.ok.exfs L z hL
   exact ⟨hk,⟨L,_,hf,hn,e,hd⟩,ih (fun b hb => hs b (by unfold frs; rw [List.filterMap_cons,hf]; exact List.mem_cons_of_mem _ hb)) hr⟩
 exact all X.outer (fun _ hb => hb) I.ok.funs
theorem Inv.stack (I : Inv X pins σ H s) : s.heap.FunFrames X.base X.stack := by
 rcases I.ok.stk with e | ⟨e,hf⟩
 ·rw [e]; exact I.funs
 ·rw [e]
  obtain ⟨m,hn,_⟩ := I.loc
  refine .cons (by rw [I.ok.kind]; decide) hf hn ?_ I.funs
  exact Heap.get?_none_of_le (Nat.le_trans I.ok.bsz I.ok.above)
theorem Inv.stkSub (I : Inv X pins σ H s) : ∀ b ∈ frs X.stack,b ∈ X.env.locals :: X.fs := fun b hb => by
 rcases I.ok.stk with e | ⟨e,hf⟩
 ·rw [e] at hb; exact List.mem_cons_of_mem _ hb
 ·rw [e] at hb
  unfold frs at hb
  rw [List.filterMap_cons,hf] at hb
  exact hb
theorem Inv.stkFree (I : Inv X pins σ H s) : ∀ b ∈ frs X.stack,H b = none := fun b hb => by
 rcases List.mem_cons.mp (I.stkSub b hb) with e | hb
 ·rw [e]; exact I.free
 ·obtain ⟨_,o,ho,_⟩ := I.ok.funs.mem hb
  exact I.base.free b o ho (I.ok.frf b hb) fun z => I.ok.exfs b z hb
theorem Inv.step {g' : Array GenState} {t' : Nat} {d' : Drawn} {ch : List Addr} (I : Inv X pins σ H s)
  (hch : ∀ b ∈ ch,(b ∈ X.ex ∨ X.s₀.heap.objs.size ≤ b) ∧ b ≠ X.env.locals ∧ (∀ x c,X.env.cells.lookup x = some c → c ≠ b) ∧ ∀ p ∈ X.pn ++ pins,p.1 ≠ b)
  (keep : ∀ b o,b ≠ X.env.locals → b ∉ X.fs → b ∉ ch → s.heap.get? b = some o → H b = none → h'.get? b = some o)
  (slot : ∀ b o,b ≠ X.env.locals → b ∈ X.fs → b ∉ ch → s.heap.get? b = some o → H b = none → ∃ sl,h'.get? b = some { o with slots := sl }) (free : ∀ b o,b ∉ ch → s.heap.get? b = some o → H b = none → H' b = none)
  (there : ∀ b o,b ∉ ch → s.heap.get? b = some o → ∃ o',h'.get? b = some o')
  (tups : ∀ b xs,H b = some (.tup xs) → H' b = some (.tup xs)) (frzs : ∀ b o u,H b = some (.frz o u) → H' b = some (.frz o u)) (tbls : ∀ b ps,H b = some (.tbl ps) → ∃ more,H' b = some (.tbl (ps ++ more)))
  (ns : ∀ m,s.heap.Ns X.env.locals m → h'.Ns X.env.locals m) (hok : HOk X.prog X.w H' h') (hg : AllBare g') :
  Inv X pins σ H' { s with heap := h',gens := g',drawn := d',toks := t' } := by
 have neL : ∀ b o,X.s₀.heap.get? b = some o → b ≠ X.env.locals := fun b o e => Nat.ne_of_lt (Nat.lt_of_lt_of_le (Heap.lt_size e) I.ok.above)
 have neC : ∀ b o,X.s₀.heap.get? b = some o → b ∉ X.ex → b ∉ ch := fun b o e hx hb => by
  rcases (hch b hb).1 with z | z
  ·exact hx z
  ·exact absurd (Nat.lt_of_lt_of_le (Heap.lt_size e) z) (Nat.lt_irrefl _)
 have cellK : ∀ x c,X.env.cells.lookup x = some c → ∀ v,s.heap.IsCell c v → h'.IsCell c v := fun x c e v ⟨o,ho,hd⟩ => by
  have nch : c ∉ ch := fun z => (hch c z).2.2.1 x c e rfl
  by_cases hc : c ∈ X.fs
  ·obtain ⟨sl,q⟩ := slot c o (I.cne x c e) hc nch ho (I.freeC x c e)
   exact ⟨_,q,hd⟩
  ·exact ⟨o,keep c o (I.cne x c e) hc nch ho (I.freeC x c e),hd⟩
 refine ⟨I.ok,I.os,hg,⟨fun b o e n hb hx => ?_,fun b o e n hb hx => ?_,fun b o e n hx => ?_,fun b o e hx => ?_,fun b xs e => tups b xs (I.base.tups b xs e),fun b o xs e => frzs b o xs (I.base.frzs b o xs e),fun b ps e => ?_⟩,?_,fun x c e => ?_,?_,fun x c e => ?_,fun p hp => ?_,hok,I.len⟩
 ·exact keep b o (neL b o e) hb (neC b o e hx) (I.base.keep b o e n hb hx) (I.base.free b o e n hx)
 ·obtain ⟨sl,e1⟩ := I.base.slot b o e n hb hx
  obtain ⟨sl',e2⟩ := slot b _ (neL b o e) hb (neC b o e hx) e1 (I.base.free b o e n hx)
  exact ⟨sl',e2⟩
 ·obtain ⟨o',e1⟩ := I.base.there b o e hx
  exact free b o' (neC b o e hx) e1 (I.base.free b o e n hx)
 ·obtain ⟨o',e1⟩ := I.base.there b o e hx
  exact there b o' (neC b o e hx) e1
 ·obtain ⟨m1,e1⟩ := I.base.tbls b ps e
  obtain ⟨m2,e2⟩ := tbls b _ e1
  exact ⟨m1 ++ m2,by rw [e2,Array.append_assoc]⟩
 ·obtain ⟨m,hn,hl⟩ := I.loc
  refine ⟨m,ns m hn,fun i x v e1 e2 e3 => ?_⟩
  obtain ⟨u,r,l⟩ := hl i x v e1 e2 e3
  refine ⟨u,r,?_⟩
  rcases l with l | ⟨k,c,e,z⟩
  ·exact .inl l
  ·exact .inr ⟨k,c,e,cellK x c e _ z⟩
 ·obtain ⟨v,z⟩ := I.cell x c e
  exact ⟨v,cellK x c e v z⟩
 ·obtain ⟨m,⟨o,_,_,ho,_⟩,_⟩ := I.loc
  exact free _ o (fun z => (hch _ z).2.1 rfl) ho I.free
 ·obtain ⟨v,o,ho,hd⟩ := I.cell x c e
  exact free c o (fun z => (hch c z).2.2.1 x c e rfl) ho (I.freeC x c e)
 ·obtain ⟨e,n,ne,nf,d⟩ := I.pin p hp
  have nch : p.1 ∉ ch := fun z => (hch p.1 z).2.2.2 p hp rfl
  exact ⟨keep p.1 p.2 ne nf nch e n,free p.1 p.2 nch e n,ne,nf,d⟩
theorem Inv.un {t' : Nat} (I : Inv X pins σ H s) (u : Un X.fs [] H H' s.heap h') (hok : HOk X.prog X.w H' h') : Inv X pins σ H' { s with heap := h',toks := t' } := by
 obtain ⟨m,⟨o,es,ep,ho,r⟩,_⟩ := id I.loc
 obtain ⟨sl,hL⟩ := u.any ho I.free (by simp)
 exact I.step (g' := s.gens) (d' := s.drawn) (ch := []) (fun _ z => nomatch z) (fun b o _ hb _ e n => u.keep b o e n hb (by simp)) (fun b o _ hb _ e n => u.slot b o e n hb (by simp)) (fun b o _ e n => u.free b o e n (by simp)) (fun b o _ e => u.there b o e (by simp)) u.tups u.frzs u.tbls (fun m' hm => by
  obtain ⟨o',es',ep',ho',r'⟩ := hm
  rw [ho] at ho'; cases ho'
  exact ⟨_,es',ep',hL,r'⟩) hok I.bare
theorem Inv.call {g' : Array GenState} {t' : Nat} {d' : Drawn} {ch : List Addr} (I : Inv X pins σ H s) (u : Un (frs X.stack) ch H H' s.heap h') (hok : HOk X.prog X.w H' h') (hg : AllBare g')
  (hch : ∀ b ∈ ch,(b ∈ X.ex ∨ X.s₀.heap.objs.size ≤ b) ∧ b ≠ X.env.locals ∧ (∀ x c,X.env.cells.lookup x = some c → c ≠ b) ∧ ∀ p ∈ X.pn ++ pins,p.1 ≠ b) :
  Inv X pins σ H' { s with heap := h',gens := g',drawn := d',toks := t' } := by
 obtain ⟨m,⟨o,es,ep,ho,r⟩,_⟩ := id I.loc
 obtain ⟨sl,hL⟩ := u.any ho I.free fun z => (hch _ z).2.1 rfl
 exact I.step (ch := ch) hch (fun b o hL hb hc e n => u.keep b o e n (fun z => (List.mem_cons.mp (I.stkSub b z)).elim hL hb) hc) (fun b o _ _ hc e n => u.any e n hc) (fun b o hc e n => u.free b o e n hc) (fun b o hc e => u.there b o e hc) u.tups u.frzs u.tbls (fun m' hm => by
  obtain ⟨o',es',ep',ho',r'⟩ := hm
  rw [ho] at ho'; cases ho'
  exact ⟨_,es',ep',hL,r'⟩) hok hg
theorem Inv.turned {t' : Nat} {it : Addr} (I : Inv X pins σ H s) (k : ∀ b o,b ≠ it → s.heap.get? b = some o → h'.get? b = some o) (hn : H it = none) (hL : it ≠ X.env.locals)
  (h1 : it ∈ X.ex ∨ X.s₀.heap.objs.size ≤ it) (h2 : ∀ x c,X.env.cells.lookup x = some c → c ≠ it) (h3 : ∀ p ∈ X.pn ++ pins,p.1 ≠ it) : Inv X pins σ H { s with heap := h',toks := t' } := by
 have nit : ∀ b u,H b = some u → b ≠ it := fun b u e z => by rw [z,hn] at e; cases e
 refine I.step (g' := s.gens) (d' := s.drawn) (ch := [it]) (fun b hb => ?_) (fun b o _ _ hc e _ => k b o (fun z => hc (by simp [z])) e) (fun b o _ _ hc e _ => ⟨o.slots,k b o (fun z => hc (by simp [z])) e⟩) (fun _ _ _ _ n => n)
  (fun b o hc e => ⟨o,k b o (fun z => hc (by simp [z])) e⟩) (fun _ _ e => e) (fun _ _ _ e => e) (fun b ps e => ⟨#[],by rw [e]; simp⟩) (fun m hm => ?_) (fun b u e => ?_) I.bare
 ·have e : b = it := by simpa using hb
  subst e
  exact ⟨h1,hL,h2,h3⟩
 ·obtain ⟨o,es,ep,ho,r⟩ := hm
  exact ⟨o,es,ep,k _ o (Ne.symm hL) ho,r⟩
 ·refine (I.hok b u e).stay (fun c v hc q => k c v ?_ q) (fun _ q => q) fun _ _ q => q
  rcases hc with z | z
  ·rw [z]; exact nit b u e
  ·exact nit c _ z
theorem Inv.tok (I : Inv X pins σ H s) (t : Nat) : Inv X pins σ H { s with toks := t } := I.un (h' := s.heap) (t' := t) Un.refl I.hok
theorem Inv.kept {t' : Nat} (I : Inv X pins σ H s) (k : ∀ b u,s.heap.get? b = some u → h'.get? b = some u) : Inv X pins σ H { s with heap := h',toks := t' } := I.un (Un.kept k) (I.hok.kept k)
theorem Inv.laid {a : Addr} {o : HO} {t' : Nat} (I : Inv X pins σ H s) (k : ∀ b u,s.heap.get? b = some u → h'.get? b = some u) (hp : s.heap.objs.size ≤ a) (new : ObjOk X.prog X.w (upd H a o) h' a o) :
  Inv X pins σ (upd H a o) { s with heap := h',toks := t' } := I.un (Un.laid k hp (I.hok.fresh hp)) (I.hok.laid k hp new)
theorem Inv.write {x e : Addr} {o : HO} {t' : Nat} (I : Inv X pins σ H s) (mu : Mut (H x)) (he : e = x ∨ H e = some (.own x)) (k : ∀ b u,b ≠ e → s.heap.get? b = some u → h'.get? b = some u) (heo : ∃ u,h'.get? e = some u)
  (new : ObjOk X.prog X.w (upd H x o) h' x o) : Inv X pins σ (upd H x o) { s with heap := h',toks := t' } := I.un (Un.write mu he k heo) (I.hok.write mu he k heo new)
theorem Inv.pins_of {pins' : List (Addr × Obj)} (I : Inv X pins σ H s) (h : ∀ p ∈ pins',s.heap.get? p.1 = some p.2 ∧ H p.1 = none ∧ p.1 ≠ X.env.locals ∧ p.1 ∉ X.fs ∧ ∀ v,p.2.data ≠ .cell v) : Inv X pins' σ H s :=
 ⟨I.ok,I.os,I.bare,I.base,I.loc,I.cell,I.free,I.freeC,fun p hp => (List.mem_append.mp hp).elim (fun z => I.pin p (List.mem_append_left _ z)) (h p),I.hok,I.len⟩
theorem nodup_ix {N : List Str} (hN : N.Nodup) {i j : Nat} {x : Str} (a : N[i]? = some x) (b : N[j]? = some x) : i = j := by
 obtain ⟨h1,e1⟩ := List.getElem?_eq_some_iff.mp a
 obtain ⟨h2,e2⟩ := List.getElem?_eq_some_iff.mp b
 exact (List.getElem_inj hN).mp (e1.trans e2.symm)
theorem store_ok2 {M : Model} {A : Around} {E : Value → Shared → Prop} {i : Nat} {x : Str} {v : V} {u : Value} {Q : Unit → Shared → Prop} (I : Inv X pins σ H s) (hN : X.N.Nodup) (hi : X.N[i]? = some x) (hx : Loc X.env.scope x) (r : RelV v u)
  (h : ∀ s',Inv X pins (σ.set i (some v)) H s' → (∃ a,Heap.SameBut a s.heap s'.heap ∧ (a = X.env.locals ∨ X.env.cells.lookup x = some a)) → Q () s') (hf : X.fn x = true ∨ X.env.scope.names.lookup x = some .local := by first | exact .inl rfl | exact .inr rfl | assumption) : wpAny M A (storeName X.env x u) Q E s := by
 obtain ⟨m,hn,hl⟩ := id I.loc
 have hcls : (X.env.scope.kind == .class || (X.env.scope.kind == .module && X.env.locals != X.env.globals)) = false := by rw [I.ok.kind]; rfl
 have hiσ : i < σ.length := by rw [I.len]; exact (List.getElem?_eq_some_iff.mp hi).1
 have cne := I.cne
 have tracked : ∀ {a : Addr} {h' : Heap},(∃ o,s.heap.get? a = some o ∧ H a = none) → Heap.SameBut a s.heap h' → HOk X.prog X.w H h' := fun {a h'} ha hs b ob e => by
  obtain ⟨_,_,hfree⟩ := ha
  refine (I.hok b ob e).stay (fun c w' hc q => (hs.2 c ?_).trans q) (fun _ q => q) fun _ _ q => q
  rintro rfl
  rcases hc with rfl | hc
  ·rw [hfree] at e; cases e
  ·rw [hfree] at hc; cases hc
 rcases hx with hk | hk
 ·refine wpAny_storeName_local hk hn (fun h' hn' hs => ?_) hcls
  obtain ⟨oL,_,_,hoL,_⟩ := id hn
  refine h _ ⟨I.ok,I.os,I.bare,⟨fun b o e n hb hx => ?_,fun b o e n hb hx => ?_,I.base.free,fun b o e hx => ?_,I.base.tups,I.base.frzs,I.base.tbls⟩,⟨_,hn',fun j y v' e1 e2 e3 => ?_⟩,fun y c e => ?_,I.free,I.freeC,fun p hp => ?_,tracked ⟨oL,hoL,I.free⟩ hs,by simpa using I.len⟩ ⟨_,hs,.inl rfl⟩
  ·exact (hs.2 b (Nat.ne_of_lt (Nat.lt_of_lt_of_le (Heap.lt_size e) I.ok.above))).trans (I.base.keep b o e n hb hx)
  ·obtain ⟨sl,e1⟩ := I.base.slot b o e n hb hx
   exact ⟨sl,(hs.2 b (Nat.ne_of_lt (Nat.lt_of_lt_of_le (Heap.lt_size e) I.ok.above))).trans e1⟩
  ·obtain ⟨o',e1⟩ := I.base.there b o e hx
   exact ⟨o',(hs.2 b (Nat.ne_of_lt (Nat.lt_of_lt_of_le (Heap.lt_size e) I.ok.above))).trans e1⟩
  ·by_cases hj : j = i
   ·subst hj
    rw [hi] at e1; cases e1
    rw [List.getElem?_set_self hiσ] at e2
    cases e2
    exact ⟨u,r,.inl ⟨hk,by simp⟩⟩
   ·rw [List.getElem?_set_ne (Ne.symm hj)] at e2
    obtain ⟨u',r',q⟩ := hl j y v' e1 e2 e3
    refine ⟨u',r',?_⟩
    rcases q with ⟨k,e⟩ | ⟨k,c,e,z⟩
    ·refine .inl ⟨k,?_⟩
     have : y ≠ x := fun e => hj (nodup_ix hN e1 (e ▸ hi))
     simp [this,e]
    ·exact .inr ⟨k,c,e,z.sameBut hs (cne y c e)⟩
  ·obtain ⟨w',z⟩ := I.cell y c e
   exact ⟨w',z.sameBut hs (cne y c e)⟩
  ·obtain ⟨e,n,ne,nf,d⟩ := I.pin p hp
   exact ⟨(hs.2 p.1 ne).trans e,n,ne,nf,d⟩
 ·have hfn : X.fn x = true := by
   rcases hf with z | z
   ·exact z
   ·rw [z] at hk; cases hk
  obtain ⟨c,hc⟩ := I.ok.has x (.inl hk)
  obtain ⟨w',z⟩ := I.cell x c hc
  refine wpAny_storeName_cell I.ok.kind hk hc z (fun h' hc' hs => ?_)
  obtain ⟨oc,hoc,hocd⟩ := id z
  refine h { s with heap := h' } ⟨I.ok,I.os,I.bare,⟨fun b o e n hb hx => ?_,fun b o e n hb hx => ?_,I.base.free,fun b o e hx => ?_,I.base.tups,I.base.frzs,I.base.tbls⟩,⟨m,hn.sameBut hs (Ne.symm (cne x c hc)),fun j y v' e1 e2 e3 => ?_⟩,fun y c' e => ?_,I.free,I.freeC,fun p hp => ?_,tracked ⟨oc,hoc,I.freeC x c hc⟩ hs,by simpa using I.len⟩ ⟨c,hs,.inr hc⟩
  ·exact (hs.2 b (Nat.ne_of_lt (Nat.lt_of_lt_of_le (Heap.lt_size e) (I.ok.cab x c hfn hc)))).trans (I.base.keep b o e n hb hx)
  ·obtain ⟨sl,e1⟩ := I.base.slot b o e n hb hx
   exact ⟨sl,(hs.2 b (Nat.ne_of_lt (Nat.lt_of_lt_of_le (Heap.lt_size e) (I.ok.cab x c hfn hc)))).trans e1⟩
  ·obtain ⟨o',e1⟩ := I.base.there b o e hx
   exact ⟨o',(hs.2 b (Nat.ne_of_lt (Nat.lt_of_lt_of_le (Heap.lt_size e) (I.ok.cab x c hfn hc)))).trans e1⟩
  ·by_cases hj : j = i
   ·subst hj
    rw [hi] at e1; cases e1
    rw [List.getElem?_set_self hiσ] at e2
    cases e2
    exact ⟨u,r,.inr ⟨.inl hk,c,hc,hc'⟩⟩
   ·rw [List.getElem?_set_ne (Ne.symm hj)] at e2
    obtain ⟨u',r',q⟩ := hl j y v' e1 e2 e3
    refine ⟨u',r',?_⟩
    rcases q with q | ⟨k,c',e,z'⟩
    ·exact .inl q
    ·refine .inr ⟨k,c',e,z'.sameBut hs ?_⟩
     rintro rfl
     exact hj (nodup_ix hN e1 (I.ok.inj _ _ _ e hc ▸ hi))
  ·by_cases hcc : c' = c
   ·subst hcc; exact ⟨_,hc'⟩
   ·obtain ⟨w2,z2⟩ := I.cell y c' e
    exact ⟨w2,z2.sameBut hs hcc⟩
  ·obtain ⟨e,n,ne,nf,d⟩ := I.pin p hp
   refine ⟨(hs.2 p.1 ?_).trans e,n,ne,nf,d⟩
   intro q
   rw [q,hoc] at e
   have q' : oc = p.2 := Option.some.inj e
   exact d w' (by rw [← q']; exact hocd)
theorem store_ok {M : Model} {A : Around} {E : Value → Shared → Prop} {i : Nat} {x : Str} {v : V} {u : Value} {Q : Unit → Shared → Prop} (I : Inv X pins σ H s) (hN : X.N.Nodup) (hi : X.N[i]? = some x) (hx : Loc X.env.scope x) (r : RelV v u)
  (h : ∀ s',Inv X pins (σ.set i (some v)) H s' → Q () s') (hf : X.fn x = true ∨ X.env.scope.names.lookup x = some .local := by first | exact .inl rfl | exact .inr rfl | assumption) : wpAny M A (storeName X.env x u) Q E s :=
 store_ok2 I hN hi hx r (fun s' I' _ => h s' I') hf
theorem Inv.call' {s' : Shared} {ch : List Addr} (I : Inv X pins σ H s) (ho : s'.os = s.os) (u : Un (frs X.stack) ch H H' s.heap s'.heap) (hok : HOk X.prog X.w H' s'.heap) (hg : AllBare s'.gens)
  (hch : ∀ b ∈ ch,(b ∈ X.ex ∨ X.s₀.heap.objs.size ≤ b) ∧ b ≠ X.env.locals ∧ (∀ x c,X.env.cells.lookup x = some c → c ≠ b) ∧ ∀ p ∈ X.pn ++ pins,p.1 ≠ b) : Inv X pins σ H' s' := by
 obtain ⟨h',g',d',t',o'⟩ := s'
 have e : o' = s.os := ho
 subst e
 exact I.call (g' := g') (t' := t') (d' := d') u hok hg hch
end
abbrev XK := Value → Option Addr → Hp → Prop
abbrev St := List (Option V)
abbrev VK := V → Hp → Prop
abbrev TE := St → Hp → VK → Prop
abbrev TT := St → Hp → (Bool → Hp → Prop) → Prop
abbrev TA := St → Hp → (List V → Hp → Prop) → Prop
structure Ends where
 nx : St → Hp → Prop
 rt : VK
 bk : St → Hp → Prop := fun _ _ => False
 ct : St → Hp → Prop := fun _ _ => False
abbrev TS := Ends → St → Hp → Prop
def EP (X : Cx) (pins : List (Addr × Obj)) (σ : St) (Q : VK) (u : Value) (s' : Shared) : Prop := ∃ v H',Inv X pins σ H' s' ∧ RelV v u ∧ Q v H'
def TP (X : Cx) (pins : List (Addr × Obj)) (σ : St) (Q : Bool → Hp → Prop) (b : Bool) (s' : Shared) : Prop := ∃ H',Inv X pins σ H' s' ∧ Q b H'
def AP (X : Cx) (pins : List (Addr × Obj)) (σ : St) (Q : List V → Hp → Prop) (us : List Value) (s' : Shared) : Prop := ∃ vs H',Inv X pins σ H' s' ∧ Vals vs us ∧ Q vs H'
def SP (X : Cx) (pins : List (Addr × Obj)) (D : Ends) (f : Flow) (s' : Shared) : Prop :=
 match f with
 | .next => ∃ σ' H',Inv X pins σ' H' s' ∧ D.nx σ' H'
 | .brk => ∃ σ' H',Inv X pins σ' H' s' ∧ D.bk σ' H'
 | .cont => ∃ σ' H',Inv X pins σ' H' s' ∧ D.ct σ' H'
 | .ret u => ∃ v σ' H',Inv X pins σ' H' s' ∧ RelV v u ∧ D.rt v H'
def PE (X : Cx) (e : Expr) (t : TE) : Prop :=
 ∀ (pins : List (Addr × Obj)) (s : Shared) (σ : St) (H : Hp) (Q : VK),Inv X pins σ H s → t σ H Q → wpAny (model X.prog X.w) X.A (eval e X.env) (EP X pins σ Q) X.xe s
def PT (X : Cx) (e : Expr) (t : TT) : Prop :=
 ∀ (pins : List (Addr × Obj)) (s : Shared) (σ : St) (H : Hp) (Q : Bool → Hp → Prop),Inv X pins σ H s → t σ H Q → wpAny (model X.prog X.w) X.A (isTrue e X.env (eval e X.env)) (TP X pins σ Q) X.xe s
def PW (X : Cx) (e : Expr) (t : TT) : Prop :=
 ∀ (whole : Sem Value) (pins : List (Addr × Obj)) (s : Shared) (σ : St) (H : Hp) (Q : Bool → Hp → Prop),Inv X pins σ H s → t σ H Q → wpAny (model X.prog X.w) X.A (isTrue e X.env whole) (TP X pins σ Q) X.xe s
theorem PW.pt {X : Cx} {e : Expr} {t : TT} (h : PW X e t) : PT X e t := h _
def PA (X : Cx) (es : List Expr) (t : TA) : Prop :=
 ∀ (pos : Pos) (pins : List (Addr × Obj)) (s : Shared) (σ : St) (H : Hp) (Q : List V → Hp → Prop),Inv X pins σ H s → t σ H Q → wpAny (model X.prog X.w) X.A (spliced (backTo pos (starEach es X.env))) (AP X pins σ Q) X.xe s
def PS (X : Cx) (st : Stmt) (t : TS) : Prop :=
 ∀ (pins : List (Addr × Obj)) (s : Shared) (σ : St) (H : Hp) (D : Ends),Inv X pins σ H s → t D σ H → wpAny (model X.prog X.w) X.A (exec st X.env) (SP X pins D) X.xe s
def PSs (X : Cx) (st : List Stmt) (t : TS) : Prop :=
 ∀ (pins : List (Addr × Obj)) (s : Shared) (σ : St) (H : Hp) (D : Ends),Inv X pins σ H s → t D σ H → wpAny (model X.prog X.w) X.A (execs st X.env) (SP X pins D) X.xe s
theorem thn {α : Type} {t : Sem α} {Q Q' : α → Shared → Prop} {M : Model} {A : Around} {E : Value → Shared → Prop} {s : Shared} (h : wpAny M A t Q E s) (hQ : ∀ a s,Q a s → Q' a s) : wpAny M A t Q' E s := wpAny_mono h hQ fun _ _ x => x
section
variable {X : Cx}
def tVar (i : Nat) : TE := fun σ H Q => ∃ v,σ[i]? = some (some v) ∧ Q v H
def tC (v : V) : TE := fun _ H Q => Q v H
theorem pe_var {i : Nat} {x : Str} {pos : Pos} (hN : X.N[i]? = some x) (hv : Vis X.env.scope x) (hd : (x == ("__debug__" : Str)) = false := by decide) (hcd : (x == ("__classdict__" : Str)) = false := by decide) : PE X (.Name x pos) (tVar i) := by
 intro pins s σ H Q I h
 obtain ⟨v,e,h⟩ := h
 obtain ⟨m,hn,hl⟩ := I.loc
 obtain ⟨u,r,l⟩ := hl i x v hN e hv
 have fin : EP X pins σ Q u s := ⟨v,H,I,r,h⟩
 rcases l with ⟨hk,hm⟩ | ⟨hk,c,hc,hcell⟩
 ·exact wpAny_Name (wpAny_loadName_local I.ok.kind hk hn hm fin) hd
 ·rcases hk with hk | hk
  ·exact wpAny_Name (wpAny_loadName_cell I.ok.kind hk hc hcell fin) hd
  ·exact wpAny_Name (wpAny_loadName_free I.ok.kind hk hc hcell fin hcd) hd
theorem pe_int {i j pos} : PE X (.Constant (.int i) j pos) (tC (.int i)) := fun _ _ _ H _ I h => wpAny_Constant_int ⟨.int i,H,I.tok _,⟨_,rfl⟩,h⟩
theorem pe_bl {b j pos} : PE X (.Constant (.bool b) j pos) (tC (.bl b)) := fun _ _ _ H _ I h => Constant_bool ⟨.bl b,H,I,rfl,h⟩
theorem pe_non {j pos} : PE X (.Constant .none j pos) (tC .non) := fun _ _ _ H _ I h => Constant_none ⟨.non,H,I,rfl,h⟩
def Gl (X : Cx) (x : Str) : Prop := X.env.kindOf x = some .globalImplicit
theorem ld_glob {E : Value → Shared → Prop} {pins : List (Addr × Obj)} {s : Shared} {σ : St} {H : Hp} {x : Str} {u : Value} {pos : Pos} {Q : Value → Shared → Prop} (I : Inv X pins σ H s) (hg : Gl X x) (hm : X.mg x = some u) (h : Q u s)
  (hd : (x == ("__debug__" : Str)) = false := by decide) : wpAny (model X.prog X.w) X.A (eval (.Name x pos) X.env) Q E s :=
 Calls.Name_function_global I.ok.kind hg (Calls.loadGlobal_global (by rw [I.ok.glob]; exact I.mod.glob.keeps I.bk) hm h) hd
theorem ld_blt {E : Value → Shared → Prop} {pins : List (Addr × Obj)} {s : Shared} {σ : St} {H : Hp} {x : Str} {u : Value} {pos : Pos} {Q : Value → Shared → Prop} (I : Inv X pins σ H s) (hg : Gl X x) (hm : X.mg x = none) (hv : bootBuiltins x = some u) (h : Q u s)
  (hn : x ≠ "__name__" := by decide) (hd : (x == ("__debug__" : Str)) = false := by decide) : wpAny (model X.prog X.w) X.A (eval (.Name x pos) X.env) Q E s := by
 obtain ⟨mb,h1,h2⟩ := I.mod.blt
 exact Calls.Name_function_global I.ok.kind hg (Calls.loadGlobal_builtin (by rw [I.ok.glob]; exact I.mod.glob.keeps I.bk) hm (by rw [I.ok.blt]; exact h1.keeps I.bk) ((h2 x hn).trans hv) h) hd
theorem pe_glob {x : Str} {v : V} {u : Value} {pos : Pos} (hg : Gl X x) (hm : X.mg x = some u) (r : RelV v u) (hd : (x == ("__debug__" : Str)) = false := by decide) : PE X (.Name x pos) (tC v) :=
 fun _ _ _ H _ I h => ld_glob I hg hm ⟨v,H,I,r,h⟩ hd
theorem pe_bltn {x : Str} {v : V} {u : Value} {pos : Pos} (hg : Gl X x) (hm : X.mg x = none) (hv : bootBuiltins x = some u) (r : RelV v u) (hn : x ≠ "__name__" := by decide) (hd : (x == ("__debug__" : Str)) = false := by decide) : PE X (.Name x pos) (tC v) :=
 fun _ _ _ H _ I h => ld_blt I hg hm hv ⟨v,H,I,r,h⟩ hn hd
variable {a b : Expr} {ta tb : TE} {pos : Pos}
def PC (X : Cx) (op : CmpOp) (a b : Expr) (t : TE) : Prop :=
 ∀ (pins : List (Addr × Obj)) (s : Shared) (σ : St) (H : Hp) (Q : VK),Inv X pins σ H s → t σ H Q →
  wpAny (model X.prog X.w) X.A (eval a X.env) (fun v s₁ => wpAny (model X.prog X.w) X.A (eval b X.env) (fun u s₂ => wpAny (model X.prog X.w) X.A (compareOp op v u) (EP X pins σ Q) X.xe s₂) X.xe s₁) X.xe s
def tB (t : TE) : TT := fun σ H Q => t σ H fun x H1 => ∃ c,x = .bl c ∧ Q c H1
theorem pt_cmp {op : CmpOp} {t : TE} (h : PC X op a b t) (h1 : behindInMarks op b = false := by first | exact nobehind _ (by decide) (by decide) | rfl) : PT X (.Compare a [op] [b] pos) (tB t) := by
 intro pins s σ H Q I hw
 refine wpAny_isTrue_Compare1 (thn (h pins s σ H _ I hw) fun v s1 h1 => thn h1 fun u s2 h2 => thn h2 fun c s3 ⟨x,H1,I1,r1,q1⟩ => ?_) h1
 obtain ⟨d,rfl,q⟩ := q1
 cases r1
 exact wpAny_truthy_bool ⟨H1,I1,q⟩
theorem pt_val {e : Expr} {t : TE} (h : PE X e t) (he : ∀ whole,isTrue e X.env whole = (do let v ← whole; standAt e.pos; holding [v] (truthy v)) := by intro _; rfl) : PT X e (tB t) := by
 intro pins s σ H Q I hw
 refine isTrue_plain (thn (h pins s σ H _ I hw) fun v s1 ⟨x,H1,I1,r1,q1⟩ => ?_) (he _)
 obtain ⟨d,rfl,q⟩ := q1
 cases r1
 exact wpAny_truthy_bool ⟨H1,I1,q⟩
variable {tA tB' : TT} {rest : List Expr}
def tAnd (t u : TT) : TT := fun σ H Q => t σ H fun c H1 => if c = true then u σ H1 Q else Q false H1
def tOr (t u : TT) : TT := fun σ H Q => t σ H fun c H1 => if c = true then Q true H1 else u σ H1 Q
def tNot (t : TT) : TT := fun σ H Q => t σ H fun c H1 => Q (!c) H1
theorem pw_and1 (ha : PT X a tA) : PW X (.BoolOp .And [a] pos) tA := by
 intro wh pins s σ H Q I h
 refine isTrue_and (thn (ha pins s σ H Q I h) fun c s1 e => ?_)
 cases c with
 | true => exact isTrue_and_nil e
 | false => exact e
theorem pw_or1 (ha : PT X a tA) : PW X (.BoolOp .Or [a] pos) tA := by
 intro wh pins s σ H Q I h
 refine isTrue_or (thn (ha pins s σ H Q I h) fun c s1 e => ?_)
 cases c with
 | false => exact isTrue_or_nil e
 | true => exact e
theorem pw_and (ha : PT X a tA) (hb : PW X (.BoolOp .And (b :: rest) pos) tB') : PW X (.BoolOp .And (a :: b :: rest) pos) (tAnd tA tB') := by
 intro wh pins s σ H Q I h
 refine isTrue_and (thn (ha pins s σ H _ I h) fun c s1 ⟨H1,I1,q1⟩ => ?_)
 cases c with
 | true => exact hb wh pins s1 σ H1 Q I1 q1
 | false => exact ⟨H1,I1,q1⟩
theorem pw_or (ha : PT X a tA) (hb : PW X (.BoolOp .Or (b :: rest) pos) tB') : PW X (.BoolOp .Or (a :: b :: rest) pos) (tOr tA tB') := by
 intro wh pins s σ H Q I h
 refine isTrue_or (thn (ha pins s σ H _ I h) fun c s1 ⟨H1,I1,q1⟩ => ?_)
 cases c with
 | true => exact ⟨H1,I1,q1⟩
 | false => exact hb wh pins s1 σ H1 Q I1 q1
theorem pt_not (ha : PT X a tA) : PT X (.UnaryOp .Not a pos) (tNot tA) := by
 intro pins s σ H Q I h
 exact isTrue_not (ha pins s σ H (fun c H1 => Q (!c) H1) I h)
def tAndV (ta tb : TE) : TE := fun σ H Q => ta σ H fun x H1 => ∃ c,x = .bl c ∧ if c = true then tb σ H1 Q else Q (.bl false) H1
def tNotV (ta : TE) : TE := fun σ H Q => ta σ H fun x H1 => ∃ c,x = .bl c ∧ Q (.bl (!c)) H1
theorem pe_one {op} {t : TE} (h : PE X a t) : PE X (.BoolOp op [a] pos) t := fun pins s σ H Q I hw => BoolOp_one (h pins s σ H Q I hw)
theorem pe_and (ha : PE X a ta) (hb : PE X (.BoolOp .And (b :: rest) pos) tb) : PE X (.BoolOp .And (a :: b :: rest) pos) (tAndV ta tb) := by
 intro pins s σ H Q I h
 refine BoolOp_and (thn (ha pins s σ H _ I h) fun v s1 ⟨x,H1,I1,r1,q1⟩ => ?_)
 obtain ⟨c,rfl,q1⟩ := q1
 cases r1
 refine wpAny_truthy_bool ?_
 cases c with
 | true => exact hb pins s1 σ H1 Q I1 q1
 | false => exact ⟨.bl false,H1,I1,rfl,q1⟩
theorem pe_not (ha : PE X a ta) : PE X (.UnaryOp .Not a pos) (tNotV ta) := by
 intro pins s σ H Q I h
 refine UnaryOp_ (thn (ha pins s σ H _ I h) fun v s1 ⟨x,H1,I1,r1,q1⟩ => ?_)
 obtain ⟨c,rfl,q1⟩ := q1
 cases r1
 exact not_of (wpAny_truthy_bool ⟨.bl (!c),H1,I1,rfl,q1⟩)
end
def SqL (K : PySem.W.Frag) (H : Hp) (a : Addr) (xs : List V) : Prop :=
 Rd H a (.lst xs) ∨
  ∃ (o : Obj) (its : Array Value) (n : Nat), K.lookup a = some o ∧ o.cls = .type "list" ∧ o.dict = none ∧ o.data = .seq its n ∧ its.size ≤ sizeLine ∧ Vals xs its.toList
def SqT (K : PySem.W.Frag) (H : Hp) (a : Addr) (xs : List V) : Prop :=
 Rd H a (.tup xs) ∨
  ∃ (o : Obj) (its : Array Value) (n : Nat), K.lookup a = some o ∧ o.cls = .type "tuple" ∧ o.data = .seq its n ∧ its.size ≤ sizeLine ∧ Vals xs its.toList
def absV : Value → Option V
 | .none => some .non
 | .bool b => some (.bl b)
 | .int i _ => some (.int i)
 | .str x _ => some (.str x)
 | .bytes b _ => some (.byt b)
 | .float b _ => some (.flt b)
 | .ref a => some (.ref a)
 | .type n => some (.ty n)
 | _ => none
theorem RelV.abs {x : V} {u : Value} (r : RelV x u) : absV u = some x := by
 cases x with
 | non => cases r; rfl
 | bl _ => cases r; rfl
 | int _ => obtain ⟨t,rfl⟩ := r; rfl
 | str _ => obtain ⟨t,rfl⟩ := r; rfl
 | byt _ => obtain ⟨t,rfl⟩ := r; rfl
 | flt _ => obtain ⟨t,rfl⟩ := r; rfl
 | ref _ => cases r; rfl
 | ty _ => cases r; rfl
theorem RelV.inj {x y : V} {u : Value} (r : RelV x u) (q : RelV y u) : x = y := Option.some.inj (r.abs.symm.trans q.abs)
theorem Vals.inj : ∀ {xs ys : List V} {us : List Value},Vals xs us → Vals ys us → xs = ys
 | _,_,_,.nil,.nil => rfl
 | _,_,_,.cons r t,.cons r' t' => by rw [r.inj r',Vals.inj t t']
section
variable {X : Cx} {pins : List (Addr × Obj)} {σ : St} {H : Hp} {s : Shared} {a : Addr} {xs ys : List V}
theorem SqT.of {K : PySem.W.Frag} (h : H a = some (.tup xs)) : SqT K H a xs := .inl (.inl h)
theorem Inv.list (I : Inv X pins σ H s) (h : SqL X.K H a xs) : ∃ its : List Value,Vals xs its ∧ PlainL s.heap a its.toArray ∧ xs.length ≤ sizeLine := by
 rcases h with h | ⟨o,its,n,hk,hc,hd,hs,hz,r⟩
 ·obtain ⟨z,its,n,r,e⟩ := h.ok I.hok
  exact ⟨its,r,⟨_,n,e,rfl,rfl,rfl⟩,z⟩
 ·refine ⟨its.toList,r,⟨o,n,I.kIn a o hk,hc,hd,by simpa using hs⟩,?_⟩
  have e := r.length
  simp only [Array.length_toList] at e
  omega
theorem Inv.tuple (I : Inv X pins σ H s) (h : SqT X.K H a xs) : ∃ its : List Value,Vals xs its ∧ IsTup s.heap a its.toArray ∧ xs.length ≤ sizeLine := by
 rcases h with h | ⟨o,its,n,hk,hc,hs,hz,r⟩
 ·obtain ⟨z,its,r,p⟩ := h.ok I.hok
  exact ⟨its,r,p,z⟩
 ·refine ⟨its.toList,r,⟨o,I.kIn a o hk,hc,n,by simpa using hs⟩,?_⟩
  have e := r.length
  simp only [Array.length_toList] at e
  omega
theorem Inv.list_inj (I : Inv X pins σ H s) (h : SqL X.K H a xs) (h' : SqL X.K H a ys) : xs = ys := by
 obtain ⟨its,r,⟨o,n,e,_,_,d⟩,_⟩ := I.list h
 obtain ⟨its',r',⟨o',n',e',_,_,d'⟩,_⟩ := I.list h'
 rw [e] at e'; cases e'
 rw [d] at d'
 injection d' with d1 _
 have : its = its' := by simpa using congrArg Array.toList d1
 subst this
 exact r.inj r'
theorem Inv.tuple_inj (I : Inv X pins σ H s) (h : SqT X.K H a xs) (h' : SqT X.K H a ys) : xs = ys := by
 obtain ⟨its,r,⟨o,e,_,n,d⟩,_⟩ := I.tuple h
 obtain ⟨its',r',⟨o',e',_,n',d'⟩,_⟩ := I.tuple h'
 rw [e] at e'; cases e'
 rw [d] at d'
 injection d' with d1 _
 have : its = its' := by simpa using congrArg Array.toList d1
 subst this
 exact r.inj r'
end
abbrev Cx.wish (X : Cx) (E : Value → Shared → Prop) : Cx := { X with xe := E }
abbrev Cx.nox (X : Cx) : Cx := X.wish fun _ _ => False
theorem Cx.Ok.wish {X : Cx} (ok : X.Ok) (E : Value → Shared → Prop) : (X.wish E).Ok :=
 ⟨ok.mod,ok.kind,ok.glob,ok.blt,ok.above,ok.inj,ok.has,ok.cab,ok.hd,ok.frames,ok.stk,ok.exf,ok.bs,ok.bsz,ok.noex,ok.exfs,ok.funs,ok.frf⟩
theorem Cx.Ok.unwish {X : Cx} {E : Value → Shared → Prop} (ok : (X.wish E).Ok) : X.Ok :=
 ⟨ok.mod,ok.kind,ok.glob,ok.blt,ok.above,ok.inj,ok.has,ok.cab,ok.hd,ok.frames,ok.stk,ok.exf,ok.bs,ok.bsz,ok.noex,ok.exfs,ok.funs,ok.frf⟩
section
variable {X : Cx} {pins : List (Addr × Obj)} {σ : St} {H : Hp} {s : Shared} {E : Value → Shared → Prop}
theorem Inv.wish (I : Inv X pins σ H s) (E : Value → Shared → Prop) : Inv (X.wish E) pins σ H s := ⟨I.ok.wish E,I.os,I.bare,I.base,I.loc,I.cell,I.free,I.freeC,I.pin,I.hok,I.len⟩
theorem Inv.unwish (I : Inv (X.wish E) pins σ H s) : Inv X pins σ H s := ⟨I.ok.unwish,I.os,I.bare,I.base,I.loc,I.cell,I.free,I.freeC,I.pin,I.hok,I.len⟩
theorem SP.unwish {D : Ends} {f : Flow} {s' : Shared} (h : SP (X.wish E) pins D f s') : SP X pins D f s' := by
 cases f with
 | next => obtain ⟨σ',H',I,q⟩ := h; exact ⟨σ',H',I.unwish,q⟩
 | brk => obtain ⟨σ',H',I,q⟩ := h; exact ⟨σ',H',I.unwish,q⟩
 | cont => obtain ⟨σ',H',I,q⟩ := h; exact ⟨σ',H',I.unwish,q⟩
 | ret u => obtain ⟨v,σ',H',I,r,q⟩ := h; exact ⟨v,σ',H',I.unwish,r,q⟩
theorem PSs.nox {st : List Stmt} {t : TS} (h : PSs X.nox st t) : PSs X st t := fun pins s σ H D I hw =>
 wpAny_mono (h pins s σ H D (I.wish _) hw) (fun _ _ q => q.unwish) fun _ _ z => False.elim z
end
section
variable {X : Cx} {st : Stmt} {rest : List Stmt} {t u : TS} {e : Expr} {te : TE} {pos : Pos}
def tNext : TS := fun D σ H => D.nx σ H
def tSeq (t u : TS) : TS := fun D σ H => t { D with nx := u D } σ H
theorem pss_nil : PSs X [] tNext := fun _ _ σ H _ I h => wpAny_execs_nil ⟨σ,H,I,h⟩
theorem pss_cons (h1 : PS X st t) (h2 : PSs X rest u) : PSs X (st :: rest) (tSeq t u) := by
 intro pins s σ H D I h
 refine wpAny_execs_cons (thn (h1 pins s σ H { D with nx := u D } I h) fun f s1 q => ?_)
 cases f with
 | next =>
  obtain ⟨σ',H',I',q⟩ := q
  exact h2 pins s1 σ' H' D I' q
 | ret v => exact q
 | brk => exact q
 | cont => exact q
theorem pss_one (h1 : PS X st t) : PSs X [st] t := by
 intro pins s σ H D I h
 refine wpAny_execs_cons (thn (h1 pins s σ H D I h) fun f s1 q => ?_)
 cases f with
 | next => exact wpAny_execs_nil q
 | ret v => exact q
 | brk => exact q
 | cont => exact q
def tCont : TS := fun D σ H => D.ct σ H
theorem ps_continue : PS X (.Continue pos) tCont := fun _ _ σ H _ I h => wpAny_Continue ⟨σ,H,I,h⟩
theorem Inv.quiet {pins : List (Addr × Obj)} {σ : St} {H : Hp} {s : Shared} (I : Inv X pins σ H s) : interactive X.env = false := by simp [interactive,I.ok.kind]
def tDrop (te : TE) : TS := fun D σ H => te σ H fun _ H1 => D.nx σ H1
theorem ps_expr (he : PE X e te) (hs : swapsWith e none pos.line X.env = pure false := by rfl) : PS X (.Expr e pos) (tDrop te) := by
 intro pins s σ H D I h
 exact wpAny_Expr_any (thn (he pins s σ H _ I h) fun v s1 ⟨x,H1,I1,r1,q1⟩ => ⟨σ,H1,I1,q1⟩) I.quiet hs
def tRet (te : TE) : TS := fun D σ H => te σ H D.rt
theorem ps_ret (he : PE X e te) : PS X (.Return (some e) pos) (tRet te) := by
 intro pins s σ H D I h
 exact wpAny_Return_some (thn (he pins s σ H _ I h) fun v s1 ⟨x,H1,I1,r1,q1⟩ => ⟨x,σ,H1,I1,r1,q1⟩)
def tIfS (c : TT) (t u : TS) : TS := fun D σ H => c σ H fun b H1 => if b = true then t D σ H1 else u D σ H1
theorem ps_if {c : Expr} {a b : List Stmt} {tc : TT} (hc : PT X c tc) (ha : PSs X a t) (hb : PSs X b u) : PS X (.If c a b pos) (tIfS tc t u) := by
 intro pins s σ H D I h
 refine wpAny_If (thn (hc pins s σ H _ I h) fun d s1 ⟨H1,I1,q1⟩ => ?_)
 cases d with
 | true => exact ha pins s1 σ H1 D I1 q1
 | false => exact hb pins s1 σ H1 D I1 q1
def tNever : TS := fun _ _ _ => False
theorem ps_never : PS X st tNever := fun _ _ _ _ _ _ h => h.elim
end
abbrev TG := V → St → Hp → (St → Hp → Prop) → Prop
abbrev TGs := List V → St → Hp → (St → Hp → Prop) → Prop
def PG (X : Cx) (target : Expr) (t : TG) : Prop :=
 ∀ (pins : List (Addr × Obj)) (s : Shared) (σ : St) (H : Hp) (v : V) (u : Value) (Q : St → Hp → Prop),Inv X pins σ H s → RelV v u → t v σ H Q →
  wpAny (model X.prog X.w) X.A (assign target X.env u) (fun _ s' => ∃ σ' H',Inv X pins σ' H' s' ∧ Q σ' H') X.xe s
def PGs (X : Cx) (ts : List Expr) (t : TGs) : Prop :=
 ∀ (pins : List (Addr × Obj)) (s : Shared) (σ : St) (H : Hp) (vs : List V) (us : List Value) (Q : St → Hp → Prop),Inv X pins σ H s → Vals vs us → t vs σ H Q →
  wpAny (model X.prog X.w) X.A (assignInOrder ((assignEach ts X.env).map (·.2)) us) (fun _ s' => ∃ σ' H',Inv X pins σ' H' s' ∧ Q σ' H') X.xe s
abbrev TSet := V → V → V → Hp → (Hp → Prop) → Prop
def PSet (X : Cx) (t : TSet) : Prop :=
 ∀ (pins : List (Addr × Obj)) (s : Shared) (σ : St) (H : Hp) (o i v : V) (ov iv u : Value) (Q : Hp → Prop),Inv X pins σ H s → RelV o ov → RelV i iv → RelV v u → t o i v H Q →
  wpAny (model X.prog X.w) X.A (setItem ov iv u) (fun _ s' => ∃ H',Inv X pins σ H' s' ∧ Q H') X.xe s
section
variable {X : Cx} {pos : Pos}
def gName (i : Nat) : TG := fun v σ H Q => Q (σ.set i (some v)) H
theorem pg_name {i : Nat} {x : Str} (hN : X.N.Nodup) (hi : X.N[i]? = some x) (hx : Loc X.env.scope x) (hf : X.fn x = true ∨ X.env.scope.names.lookup x = some .local := by first | exact .inl rfl | exact .inr rfl | assumption) : PG X (.Name x pos) (gName i) := by
 intro pins s σ H v u Q I r h
 exact wpAny_assign_Name (store_ok I hN hi hx r (fun s' I' => ⟨_,H,I',h⟩) hf)
def gNil : TGs := fun vs σ H Q => vs = [] ∧ Q σ H
def gCons (t : TG) (u : TGs) : TGs := fun vs σ H Q => ∃ v r,vs = v :: r ∧ t v σ H fun σ' H' => u r σ' H' Q
theorem pgs_nil : PGs X [] gNil := by
 intro pins s σ H vs us Q I r h
 obtain ⟨e,h⟩ := h
 subst e
 cases r
 exact assignInOrder_nil ⟨σ,H,I,h⟩
theorem pgs_cons {e : Expr} {es : List Expr} {t : TG} {u : TGs} (h1 : PG X e t) (h2 : PGs X es u)
  (hs : (assignEach (e :: es) X.env).map (·.2) = assign e X.env :: (assignEach es X.env).map (·.2) := by rfl) : PGs X (e :: es) (gCons t u) := by
 intro pins s σ H vs us Q I r h
 obtain ⟨v,vr,e1,h⟩ := h
 subst e1
 cases r with
 | cons r rr =>
  rw [hs]
  refine assignInOrder_cons (thn (h1 pins s σ H _ _ _ I r h) fun _ s1 ⟨σ1,H1,I1,q1⟩ => ?_)
  exact h2 pins s1 σ1 H1 _ _ Q I1 rr q1
def gTup (K : PySem.W.Frag) (n : Nat) (t : TGs) : TG := fun v σ H Q => ∃ a xs,v = .ref a ∧ SqT K H a xs ∧ xs.length = n ∧ t xs σ H Q
theorem pg_tup {es : List Expr} {k : Nat} {t : TGs} {n : Nat} (hc : X.calm = true) (h : PGs X es t)
  (hn : (assignEach es X.env).length = n := by rfl) (hst : (assignEach es X.env).findIdx? (·.1) = none := by rfl) : PG X (.Tuple es k pos) (gTup X.K n t) := by
 intro pins s σ H v u Q I r hw
 obtain ⟨a,xs,e1,hq,hl,hw⟩ := hw
 subst e1
 cases r
 obtain ⟨its,rv,ht,hz⟩ := I.tuple hq
 refine assign_Tuple_tuple (I.ok.hd hc) ht (by simp [hn,← hl,rv.length]) hst fun h' hx => ?_
 have I1 : Inv X pins σ H { s with heap := h' } := I.kept (t' := s.toks) fun b o e => hx b o (Nat.ne_of_lt (Heap.lt_size e)) e
 exact h pins _ σ H xs _ Q I1 (by simpa using rv) hw
def gSub (to ti : TE) (t : TSet) : TG := fun v σ H Q => to σ H fun o H1 => ti σ H1 fun i H2 => t o i v H2 fun H3 => Q σ H3
theorem pg_sub {o i : Expr} {to ti : TE} {t : TSet} (ho : PE X o to) (hi : PE X i ti) (hs : PSet X t)
  (ha : ∀ v,assign (.Subscript o i pos) X.env v = (do
   let ov ← holding [v] (eval o X.env)
   let iv ← holding [v,ov] (eval i X.env)
   standAt pos
   holding [v,ov,iv] (setItem ov iv v)
   release [v,ov,iv] []) := by intro _; rfl) : PG X (.Subscript o i pos) (gSub to ti t) := by
 intro pins s σ H v u Q I r h
 rw [ha]
 refine wpAny_bind (wpAny_holding (thn (ho pins s σ H _ I h) fun ov s1 ⟨x,H1,I1,r1,q1⟩ => ?_))
 refine wpAny_bind (wpAny_holding (thn (hi pins s1 σ H1 _ I1 q1) fun iv s2 ⟨y,H2,I2,r2,q2⟩ => ?_))
 refine wpAny_bind (wpAny_standAt (wpAny_bind (wpAny_holding (thn (hs pins s2 σ H2 x y v ov iv u _ I2 r1 r2 r q2) fun _ s3 ⟨H3,I3,q3⟩ => ?_))))
 exact wpAny_release ⟨σ,H3,I3,q3⟩
def tAsg (te : TE) (g : TG) : TS := fun D σ H => te σ H fun x H1 => g x σ H1 D.nx
theorem ps_asg {tg e : Expr} {te : TE} {g : TG} (he : PE X e te) (hg : PG X tg g) (hs : swapsWithSole [tg] e pos.line X.env = pure false := by rfl) (hw : swappedStores [tg] e X.env = pure none := by rfl)
  (h1 : (assignEach [tg] X.env).map (·.2) = [assign tg X.env] := by rfl) : PS X (.Assign [tg] e pos) (tAsg te g) := by
 intro pins s σ H D I h
 refine wpAny_Assign_stores (thn (he pins s σ H _ I h) fun v s1 ⟨x,H1,I1,r1,q1⟩ => ?_) hs hw
 rw [h1]
 exact thn (hg pins s1 σ H1 x v _ I1 r1 q1) fun _ s2 q => q
theorem ps_set {i : Nat} {x : Str} {e : Expr} {te : TE} {pos' : Pos} (hN : X.N.Nodup) (hi : X.N[i]? = some x) (hx : Loc X.env.scope x) (he : PE X e te) (hs : swapsWith e (some (.Name x pos')) pos.line X.env = pure false := by rfl) (hf : X.fn x = true ∨ X.env.scope.names.lookup x = some .local := by first | exact .inl rfl | exact .inr rfl | assumption) :
  PS X (.Assign [.Name x pos'] e pos) (tAsg te (gName i)) := by
 intro pins s σ H D I h
 refine wpAny_Assign_Name (thn (he pins s σ H _ I h) fun v s1 ⟨y,H1,I1,r1,q1⟩ => ?_) hs
 exact store_ok I1 hN hi hx r1 (fun s2 I2 => ⟨_,H1,I2,q1⟩) hf
end
section
variable {X : Cx} {pos : Pos}
def tWhile (c : TT) (tb : TS) : TS := fun D σ H => ∃ W : Nat → St → Hp → Prop,(∃ m,W m σ H) ∧ ∀ m σ H,W m σ H →
 c σ H fun b H1 => if b = true then ∃ N : St → Hp → Prop,(∀ σ' H',N σ' H' → ∃ m',m' < m ∧ W m' σ' H') ∧ tb { D with nx := N,ct := N,bk := D.nx } σ H1 else D.nx σ H1
theorem ps_while {c : Expr} {body : List Stmt} {tc : TT} {tb : TS} (hp : PassesOwn (model X.prog X.w) X.A X.env X.xe) (hc : PT X c tc) (hb : PSs X body tb) : PS X (.While c body [] pos) (tWhile tc tb) := by
 intro pins s σ H D I h
 obtain ⟨W,⟨m0,w0⟩,turn⟩ := h
 refine wpAny_While (codeAny_whileLoop (fun n s' => ∃ σ' H',Inv X pins σ' H' s' ∧ W n σ' H') ?_ m0 ⟨σ,H,I,w0⟩)
 rintro n s1 ⟨σ1,H1,I1,w1⟩
 refine wpAny_passesOwn hp (thn (hc pins s1 σ1 H1 _ I1 (turn n σ1 H1 w1)) fun b s2 ⟨H2,I2,q2⟩ => ?_)
 cases b with
 | true =>
  obtain ⟨N,hN,q2⟩ := q2
  rw [if_pos rfl]
  refine wpAny_passesOwn hp (thn (hb pins s2 σ1 H2 _ I2 q2) fun f s3 q3 => ?_)
  cases f with
  | next =>
   obtain ⟨σ3,H3,I3,n3⟩ := q3
   obtain ⟨m',hm,w3⟩ := hN σ3 H3 n3
   exact ⟨m',hm,σ3,H3,I3,w3⟩
  | cont =>
   obtain ⟨σ3,H3,I3,n3⟩ := q3
   obtain ⟨m',hm,w3⟩ := hN σ3 H3 n3
   exact ⟨m',hm,σ3,H3,I3,w3⟩
  | brk => exact q3
  | ret v => exact q3
 | false =>
  rw [if_neg Bool.false_ne_true]
  exact wpAny_execs_nil ⟨σ1,H2,I2,q2⟩
end
structure It where
 go : Nat → Hp → Prop
 yld : Nat → Hp → V → Hp → Prop
 stop : Nat → Hp → Prop
def FpOk (X : Cx) (pins : List (Addr × Obj)) (H : Hp) (b : Addr) : Prop :=
 H b = none ∧ b ≠ X.env.locals ∧ b ∉ X.fs ∧ (b ∈ X.ex ∨ X.s₀.heap.objs.size ≤ b) ∧ (∀ x c,X.env.cells.lookup x = some c → c ≠ b) ∧ ∀ p ∈ X.pn ++ pins,p.1 ≠ b
theorem Inv.fpOk {X : Cx} {pins : List (Addr × Obj)} {σ : St} {H H' : Hp} {s : Shared} {b : Addr} (I : Inv X pins σ H s) (hb : s.heap.objs.size ≤ b) (hn : H' b = none) : FpOk X pins H' b := by
 refine ⟨hn,Nat.ne_of_gt (Nat.lt_of_lt_of_le I.lt hb),I.nofs hb,.inr (Nat.le_trans I.sz hb),fun x c e z => ?_,fun p hp z => ?_⟩
 ·obtain ⟨v,q⟩ := I.cell x c e
  exact absurd (Nat.lt_of_lt_of_le q.lt (by rw [z]; exact hb)) (Nat.lt_irrefl _)
 ·exact absurd (Nat.lt_of_lt_of_le (Heap.lt_size (I.pin p hp).1) (by rw [z]; exact hb)) (Nat.lt_irrefl _)
structure Turn (P : Program) (w : World) (K : PySem.W.Frag) (tg : Expr) (J : It) (fp : List Addr) (it : Addr) (tn : Nat → Heap → Prop) : Prop where
 mem : it ∈ fp
 obj : ∀ i h,tn i h → ∀ b ∈ fp,∃ o,h.get? b = some o ∧ ∀ v,o.data ≠ .cell v
 keep : ∀ i h h',tn i h → (∀ b ∈ fp,∀ o,h.get? b = some o → h'.get? b = some o) → tn i h'
 item : ∀ (X : Cx),X.prog = P → X.w = w → X.K = K → X.calm = true → ∀ (i : Nat) (pins : List (Addr × Obj)) (s : Shared) (σ : St) (H : Hp) (E : Value → Shared → Prop),Inv X pins σ H s → (∀ b ∈ fp,FpOk X pins H b) → tn i s.heap → J.go i H →
  wpAny (model P w) X.A (pyNext (.ref it)) (fun r s1 => ∃ u,r = some u ∧
   wpAny (model P w) X.A (letOwnedTupleGo tg (.ref it) u) (fun _ s2 => ∃ x H',Inv X pins σ H' s2 ∧ RelV x u ∧ J.yld i H x H' ∧ tn (i + 1) s2.heap ∧ ∀ b ∈ fp,H' b = none) E s1) E s
 done : ∀ (X : Cx),X.prog = P → X.w = w → X.K = K → X.calm = true → ∀ (i : Nat) (pins : List (Addr × Obj)) (s : Shared) (σ : St) (H : Hp) (E : Value → Shared → Prop),Inv X pins σ H s → (∀ b ∈ fp,FpOk X pins H b) → tn i s.heap → J.stop i H →
  wpAny (model P w) X.A (pyNext (.ref it)) (fun r s1 => r = none ∧ Inv X pins σ H s1) E s
 self : ∀ (A : Around) (i : Nat) (s : Shared) (Q : Value → Shared → Prop) (E : Value → Shared → Prop),tn i s.heap → Q (.ref it) s → wpAny (model P w) A (pyIter (.ref it)) Q E s
abbrev TI := St → Hp → (It → Hp → Prop) → Prop
def PIE (X : Cx) (pins : List (Addr × Obj)) (σ : St) (tg : Expr) (R : It → Hp → Prop) (itv : Value) (s2 : Shared) : Prop :=
 ∃ (it : Addr) (fp : List Addr) (tn : Nat → Heap → Prop) (J : It) (H' : Hp),itv = .ref it ∧ Inv X pins σ H' s2 ∧ Turn X.prog X.w X.K tg J fp it tn ∧ tn 0 s2.heap ∧ (∀ b ∈ fp,FpOk X pins H' b) ∧ R J H'
def PI (X : Cx) (tg iter : Expr) (wi : TI) : Prop :=
 ∀ (pins : List (Addr × Obj)) (s : Shared) (σ : St) (H : Hp) (R : It → Hp → Prop),Inv X pins σ H s → wi σ H R →
  wpAny (model X.prog X.w) X.A (eval iter X.env) (fun v s1 => wpAny (model X.prog X.w) X.A (pyIter v) (PIE X pins σ tg R) X.xe s1) X.xe s
theorem go_of {M : Model} {A : Around} {E : Value → Shared → Prop} {s : Shared} {tg : Expr} {it : Addr} {u : Value} {o : Obj} {n : String} {vs : Array Value} {Q : Unit → Shared → Prop} (ho : s.heap.get? it = some o) (hc : o.cls = .type n) (hd : o.data = .fields vs)
  (hn : ["enumerate", "zip", "dict_itemiterator", "dict_reverseitemiterator", "odict_iterator", "itertools.zip_longest", "itertools.pairwise"].contains n = false) (hQ : Q () s) : wpAny M A (letOwnedTupleGo tg (.ref it) u) Q E s := by
 unfold letOwnedTupleGo
 cases tg <;> first
  | exact wpAny_pure hQ
  | (cases u <;> first
    | exact wpAny_pure hQ
    | (refine wpAny_bind (wpAny_load ho ?_)
       rw [hc,hd]
       show wpAny M A (if (["enumerate", "zip", "dict_itemiterator", "dict_reverseitemiterator", "odict_iterator", "itertools.zip_longest", "itertools.pairwise"].contains n && vs[0]? == some (rawInt _)) = true then _ else _) Q E s
       rw [if_neg (by intro h; rw [hn,Bool.false_and] at h; cases h)]
       exact wpAny_pure hQ))
def Itl (K : PySem.W.Frag) (a : Addr) : It :=
 ⟨fun i H => ∃ xs x,SqL K H a xs ∧ xs[i]? = some x,fun i H x H' => H' = H ∧ ∀ xs,SqL K H a xs → xs[i]? = some x,fun i H => ∃ xs,SqL K H a xs ∧ xs.length ≤ i⟩
def Itt (K : PySem.W.Frag) (a : Addr) : It :=
 ⟨fun i H => ∃ xs x,SqT K H a xs ∧ xs[i]? = some x,fun i H x H' => H' = H ∧ ∀ xs,SqT K H a xs → xs[i]? = some x,fun i H => ∃ xs,SqT K H a xs ∧ xs.length ≤ i⟩
def Itr (lo : Int) (n : Nat) : It := ⟨fun i _ => i < n,fun i H x H' => H' = H ∧ x = .int (lo + i),fun i _ => n ≤ i⟩
theorem turn_list {P : Program} {w : World} {K : PySem.W.Frag} {tg : Expr} (a it : Addr) : Turn P w K tg (Itl K a) [it] it (fun i h => h.IsListIter it a i) where
 mem := by simp
 obj := fun i h st b hb => by
  have e : b = it := by simpa using hb
  subst e
  obtain ⟨o,e,c,d⟩ := st
  exact ⟨o,e,fun v z => by rw [d] at z; cases z⟩
 keep := fun i h h' st k => st.at fun o e => k it (by simp) o e
 item := by
  intro X hP hw hK hc i pins s σ H E I hf st hg
  subst hP hw hK
  obtain ⟨xs,x,hq,hx⟩ := hg
  obtain ⟨its,rv,p,hz⟩ := I.list hq
  obtain ⟨u,hu,ru⟩ := rv.get hx
  obtain ⟨f0,f1,f2,f3,f4,f5⟩ := hf it (by simp)
  refine wpAny_pyNext_list_item st p.isList (x := u) (by simpa using hu) fun h' st' sb => ?_
  have I1 : Inv X pins σ H { s with heap := h' } := I.turned (t' := s.toks) (fun b o hb e => (sb.2 b hb).trans e) f0 f1 f3 f4 f5
  obtain ⟨o,e,c,d⟩ := id st'
  exact ⟨u,rfl,go_of (s := { s with heap := h' }) e c d (by decide) ⟨x,H,I1,ru,⟨rfl,fun ys hy => by rw [I.list_inj hy hq]; exact hx⟩,st',fun b hb => (hf b hb).1⟩⟩
 done := by
  intro X hP hw hK hc i pins s σ H E I hf st hg
  subst hP hw hK
  obtain ⟨xs,hq,hx⟩ := hg
  obtain ⟨its,rv,p,hz⟩ := I.list hq
  obtain ⟨f0,f1,f2,f3,f4,f5⟩ := hf it (by simp)
  have hl := rv.length
  exact wpAny_pyNext_list_end (I.ok.hd hc) st p.isList (by simp; omega) fun h' eb => ⟨rfl,I.turned (t' := s.toks) (fun b o hb e => eb b o hb e) f0 f1 f3 f4 f5⟩
 self := fun _ _ _ _ _ st h => wpAny_pyIter_listiter st h
theorem turn_tuple {P : Program} {w : World} {K : PySem.W.Frag} {tg : Expr} (a it : Addr) : Turn P w K tg (Itt K a) [it] it (fun i h => h.IsTupleIter it a i) where
 mem := by simp
 obj := fun i h st b hb => by
  have e : b = it := by simpa using hb
  subst e
  obtain ⟨o,e,c,d⟩ := st
  exact ⟨o,e,fun v z => by rw [d] at z; cases z⟩
 keep := fun i h h' st k => st.at fun o e => k it (by simp) o e
 item := by
  intro X hP hw hK hc i pins s σ H E I hf st hg
  subst hP hw hK
  obtain ⟨xs,x,hq,hx⟩ := hg
  obtain ⟨its,rv,p,hz⟩ := I.tuple hq
  obtain ⟨u,hu,ru⟩ := rv.get hx
  obtain ⟨f0,f1,f2,f3,f4,f5⟩ := hf it (by simp)
  refine wpAny_pyNext_tuple_item st (show s.heap.IsTuple a its.toArray from p) (x := u) (by simpa using hu) fun h' st' sb => ?_
  have I1 : Inv X pins σ H { s with heap := h' } := I.turned (t' := s.toks) (fun b o hb e => (sb.2 b hb).trans e) f0 f1 f3 f4 f5
  obtain ⟨o,e,c,d⟩ := id st'
  exact ⟨u,rfl,go_of (s := { s with heap := h' }) e c d (by decide) ⟨x,H,I1,ru,⟨rfl,fun ys hy => by rw [I.tuple_inj hy hq]; exact hx⟩,st',fun b hb => (hf b hb).1⟩⟩
 done := by
  intro X hP hw hK hc i pins s σ H E I hf st hg
  subst hP hw hK
  obtain ⟨xs,hq,hx⟩ := hg
  obtain ⟨its,rv,p,hz⟩ := I.tuple hq
  obtain ⟨f0,f1,f2,f3,f4,f5⟩ := hf it (by simp)
  have hl := rv.length
  exact wpAny_pyNext_tuple_end (I.ok.hd hc) st (show s.heap.IsTuple a its.toArray from p) (by simp; omega) fun h' eb => ⟨rfl,I.turned (t' := s.toks) (fun b o hb e => eb b o hb e) f0 f1 f3 f4 f5⟩
 self := fun _ _ _ _ _ st h => wpAny_pyIter_tupleiter st h
theorem turn_range {P : Program} {w : World} {K : PySem.W.Frag} {tg : Expr} (it : Addr) (lo : Int) (n : Nat) : Turn P w K tg (Itr lo n) [it] it (fun i h => IsRangeIter h it (lo + (i : Nat) * 1) ((n : Int) - (i : Nat)) 1) where
 mem := by simp
 obj := fun i h st b hb => by
  have e : b = it := by simpa using hb
  subst e
  exact ⟨_,st,fun v z => by
   have z' : Data.fields _ = Data.cell v := z
   cases z'⟩
 keep := fun i h h' st k => k it (by simp) _ st
 item := by
  intro X hP hw hK hc i pins s σ H E I hf st hg
  subst hP hw hK
  obtain ⟨f0,f1,f2,f3,f4,f5⟩ := hf it (by simp)
  have W := Walks.range (prog := X.prog) (w := X.w) (I.ok.hd hc) it lo 1 n
  refine W.item i s _ _ hg st fun v h' tk hv st' kk => ?_
  obtain ⟨t,rfl⟩ := hv
  have I1 : Inv X pins σ H { s with heap := h',toks := tk } := I.turned (fun b o hb e => kk b o (by simpa using hb) e) f0 f1 f3 f4 f5
  refine ⟨_, rfl, go_of (s := { s with heap := h', toks := tk }) (n := "range_iterator") st' rfl rfl (by decide) ⟨.int (lo + i), H, I1, ⟨t, ?_⟩, ⟨rfl, rfl⟩, st', fun b hb => (hf b hb).1⟩⟩
  rw [Int.mul_one]
 done := by
  intro X hP hw hK hc i pins s σ H E I hf st hg
  subst hP hw hK
  obtain ⟨f0,f1,f2,f3,f4,f5⟩ := hf it (by simp)
  exact wpAny_pyNext_range_end (I.ok.hd hc) st (by have : n ≤ i := hg; omega) fun h' eb => ⟨rfl,I.turned (t' := s.toks) (fun b o hb e => eb b o hb e) f0 f1 f3 f4 f5⟩
 self := fun _ _ _ _ _ st h => wpAny_pyIter_rangeiter st h
section
variable {X : Cx} {tg : Expr}
def iList (K : PySem.W.Frag) (tl : TE) : TI := fun σ H R => tl σ H fun x H1 => ∃ a,x = .ref a ∧ (∃ xs,SqL K H1 a xs) ∧ R (Itl K a) H1
def iTup (K : PySem.W.Frag) (tl : TE) : TI := fun σ H R => tl σ H fun x H1 => ∃ a,x = .ref a ∧ (∃ xs,SqT K H1 a xs) ∧ R (Itt K a) H1
theorem pi_list {l : Expr} {tl : TE} (hl : PE X l tl) : PI X tg l (iList X.K tl) := by
 intro pins s σ H R I h
 refine thn (hl pins s σ H _ I h) fun v s1 ⟨x,H1,I1,r1,q1⟩ => ?_
 obtain ⟨a,e,⟨xs,hq⟩,q⟩ := q1
 subst e
 cases r1
 obtain ⟨its,rv,p,hz⟩ := I1.list hq
 refine wpAny_pyIter_list p.isList ?_
 refine ⟨s1.heap.objs.size,[s1.heap.objs.size],_,_,H1,rfl,I1.kept (t' := s1.toks) fun b o e => Heap.get?_push_of_some _ e,turn_list a _,⟨_,Heap.get?_push_size _ rfl,rfl,rfl⟩,fun b hb => ?_,q⟩
 have e : b = s1.heap.objs.size := by simpa using hb
 subst e
 exact I1.fpOk (Nat.le_refl _) (I1.hok.fresh (Nat.le_refl _))
theorem pi_tup {l : Expr} {tl : TE} (hl : PE X l tl) : PI X tg l (iTup X.K tl) := by
 intro pins s σ H R I h
 refine thn (hl pins s σ H _ I h) fun v s1 ⟨x,H1,I1,r1,q1⟩ => ?_
 obtain ⟨a,e,⟨xs,hq⟩,q⟩ := q1
 subst e
 cases r1
 obtain ⟨its,rv,p,hz⟩ := I1.tuple hq
 refine wpAny_pyIter_tuple (show s1.heap.IsTuple a its.toArray from p) ?_
 refine ⟨s1.heap.objs.size,[s1.heap.objs.size],_,_,H1,rfl,I1.kept (t' := s1.toks) fun b o e => Heap.get?_push_of_some _ e,turn_tuple a _,⟨_,Heap.get?_push_size _ rfl,rfl,rfl⟩,fun b hb => ?_,q⟩
 have e : b = s1.heap.objs.size := by simpa using hb
 subst e
 exact I1.fpOk (Nat.le_refl _) (I1.hok.fresh (Nat.le_refl _))
theorem range_it {pins : List (Addr × Obj)} {σ : St} {H : Hp} {s : Shared} {R : It → Hp → Prop} {E : Value → Shared → Prop} {lo hi : Int} {t u v : Tok} {tk : Nat} (I : Inv X pins σ H s) (h1 : -(2 ^ 62) ≤ lo) (h2 : lo < 2 ^ 62) (h3 : -(2 ^ 62) ≤ hi) (h4 : hi < 2 ^ 62)
  (q : R (Itr lo (hi - lo).toNat) H) : wpAny (model X.prog X.w) X.A (pyIter (.ref s.heap.objs.size)) (PIE X pins σ tg R) E { s with heap := s.heap.push { cls := .type "range", data := .fields #[.int lo t, .int hi u, .int 1 v] }, toks := tk } := by
 refine wpAny_pyIter_range (IsRange.new ..) (small_one h1 h2 h3 h4) ?_
 have I1 : Inv X pins σ H { s with heap := s.heap.push { cls := .type "range", data := .fields #[.int lo t, .int hi u, .int 1 v] }, toks := tk } := I.kept fun b o e => Heap.get?_push_of_some _ e
 refine ⟨(s.heap.push { cls := .type "range", data := .fields #[.int lo t, .int hi u, .int 1 v] }).objs.size, [(s.heap.push { cls := .type "range", data := .fields #[.int lo t, .int hi u, .int 1 v] }).objs.size], _, _, H, rfl,
  I1.kept (t' := tk) fun b o e => Heap.get?_push_of_some _ e,turn_range _ lo (hi - lo).toNat,?_,fun b hb => ?_,q⟩
 ·have e1 : lo + ((0 : Nat) : Int) * 1 = lo := by simp
  have e2 : (((hi - lo).toNat : Nat) : Int) - ((0 : Nat) : Int) = Builtin.Range.rangeSize lo hi 1 := by rw [rangeSize_one]; split <;> omega
  show IsRangeIter _ _ (lo + ((0 : Nat) : Int) * 1) ((((hi - lo).toNat : Nat) : Int) - ((0 : Nat) : Int)) 1
  rw [e1,e2]
  exact Heap.get?_push_size _ rfl
 ·have e : b = (s.heap.push { cls := .type "range", data := .fields #[.int lo t, .int hi u, .int 1 v] }).objs.size := by simpa using hb
  subst e
  exact I1.fpOk (Nat.le_refl _) (I1.hok.fresh (Nat.le_refl _))
def iRng1 (ta : TA) : TI := fun σ H R => ta σ H fun vs H1 => ∃ j : Int,vs = [.int j] ∧ -(2 ^ 62) ≤ j ∧ j < 2 ^ 62 ∧ R (Itr 0 j.toNat) H1
def iRng2 (ta : TA) : TI := fun σ H R => ta σ H fun vs H1 => ∃ i j : Int,vs = [.int i,.int j] ∧ (-(2 ^ 62) ≤ i ∧ i < 2 ^ 62 ∧ -(2 ^ 62) ≤ j ∧ j < 2 ^ 62) ∧ R (Itr i (j - i).toNat) H1
theorem pi_range1 {a : Expr} {ta : TA} {p pos : Pos} (hg : Gl X "range") (hm : X.mg "range" = none) (ha : PA X [a] ta) (hs : starEach [a] X.env = [(false, eval a X.env)] := by rfl) : PI X tg (.Call (.Name "range" p) [a] [] pos) (iRng1 ta) := by
 intro pins s σ H R I h
 refine Call_ (ld_blt I hg hm boot_range (PyProof.Rows.callWith_type1 (thn (ha pos pins s σ H _ I h) fun us s1 ⟨vs,H1,I1,r1,q1⟩ => ?_) hs rfl))
 obtain ⟨j,e,q1,q2,q⟩ := q1
 subst e
 cases r1 with
 | cons r rr =>
  cases rr
  obtain ⟨t,rfl⟩ := r
  exact call_range_1 (range_it I1 (by omega) (by omega) q1 q2 (by simpa using q))
theorem pi_range2 {a b : Expr} {ta : TA} {p pos : Pos} (hg : Gl X "range") (hm : X.mg "range" = none) (ha : PA X [a, b] ta) (hs : starEach [a, b] X.env = [(false, eval a X.env), (false, eval b X.env)] := by rfl) (hs2 : starEach [b] X.env = [(false, eval b X.env)] := by rfl) :
  PI X tg (.Call (.Name "range" p) [a, b] [] pos) (iRng2 ta) := by
 intro pins s σ H R I h
 refine Call_ (ld_blt I hg hm boot_range (PyProof.Rows.callWith_type1 (thn (ha pos pins s σ H _ I h) fun us s1 ⟨vs,H1,I1,r1,q1⟩ => ?_) (by rw [hs,hs2]) (by rw [hs2]; rfl)))
 obtain ⟨i,j,e,⟨q1,q2,q3,q4⟩,q⟩ := q1
 subst e
 cases r1 with
 | cons r rr =>
  cases rr with
  | cons r' rr =>
   cases rr
   obtain ⟨t,rfl⟩ := r
   obtain ⟨t',rfl⟩ := r'
   exact call_range_2 (range_it I1 q1 q2 q3 q4 q)
def tFor (wi : TI) (g : TG) (tb : TS) : TS := fun D σ H => wi σ H fun J H1 => ∃ W : Nat → Nat → St → Hp → Prop,(∃ m,W 0 m σ H1) ∧ ∀ i m σ H,W i m σ H →
 (J.stop i H ∧ D.nx σ H) ∨ (J.go i H ∧ ∃ N : St → Hp → Prop,(∀ σ' H',N σ' H' → ∃ m',m' < m ∧ W (i + 1) m' σ' H') ∧ ∀ x H',J.yld i H x H' → g x σ H' fun σ2 H2 => tb { D with nx := N,ct := N,bk := D.nx } σ2 H2)
def pinsAt (fp : List Addr) (h : Heap) : List (Addr × Obj) := fp.filterMap fun b => (h.get? b).map fun o => (b,o)
theorem mem_pinsAt {fp : List Addr} {h : Heap} {b : Addr} {o : Obj} (hb : b ∈ fp) (e : h.get? b = some o) : (b,o) ∈ pinsAt fp h := List.mem_filterMap.mpr ⟨b,hb,by rw [e]; rfl⟩
theorem of_pinsAt {fp : List Addr} {h : Heap} {p : Addr × Obj} (hp : p ∈ pinsAt fp h) : p.1 ∈ fp ∧ h.get? p.1 = some p.2 := by
 obtain ⟨b,hb,e⟩ := List.mem_filterMap.mp hp
 cases q : h.get? b with
 | none => rw [q] at e; cases e
 | some o =>
  rw [q] at e
  have e' : (b,o) = p := Option.some.inj e
  subst e'
  exact ⟨hb,q⟩
theorem Inv.pinned {pins : List (Addr × Obj)} {σ : St} {H : Hp} {s : Shared} {fp : List Addr} (I : Inv X pins σ H s) (hf : ∀ b ∈ fp,FpOk X pins H b) (ho : ∀ b ∈ fp,∃ o,s.heap.get? b = some o ∧ ∀ v,o.data ≠ .cell v) : Inv X (pins ++ pinsAt fp s.heap) σ H s :=
 I.pins_of fun p hp => (List.mem_append.mp hp).elim (fun z => I.pin p (List.mem_append_right _ z)) fun z => by
  obtain ⟨hb,e⟩ := of_pinsAt z
  obtain ⟨f0,f1,f2,_⟩ := hf p.1 hb
  obtain ⟨o,e',d⟩ := ho p.1 hb
  rw [e] at e'; cases e'
  exact ⟨e,f0,f1,f2,d⟩
theorem Inv.unpinned {pins pl : List (Addr × Obj)} {σ : St} {H : Hp} {s : Shared} (I : Inv X (pins ++ pl) σ H s) : Inv X pins σ H s := I.pins_of fun p hp => I.pin p (List.mem_append_right _ (List.mem_append_left _ hp))
theorem ps_for {iter : Expr} {body : List Stmt} {wi : TI} {g : TG} {tb : TS} {pos : Pos} (hp : PassesOwn (model X.prog X.w) X.A X.env X.xe) (hc : X.calm = true) (hi : PI X tg iter wi) (hg : PG X tg g) (hb : PSs X body tb)
  (hs : ∀ x,foldedSetIterable iter X.env x = pure x := by intro _; rfl) : PS X (.For tg iter body [] pos) (tFor wi g tb) := by
 intro pins s σ H D I h
 refine wpAny_For (thn (hi pins s σ H _ I h) fun v s1 h1 => thn h1 fun itv s2 h2 => ?_) hs
 obtain ⟨it,fp,tn,J,H2,e,I2,T,st2,f2,W,⟨m0,w0⟩,turn⟩ := h2
 subst e
 have stat : ∀ {H' : Hp},(∀ b ∈ fp,H' b = none) → ∀ b ∈ fp,FpOk X pins H' b := fun hn b hb => ⟨hn b hb,(f2 b hb).2⟩
 refine codeAny_forLoop_any (fun n s' => ∃ i σ' H',Inv X pins σ' H' s' ∧ tn i s'.heap ∧ (∀ b ∈ fp,H' b = none) ∧ W i n σ' H') ?_ m0 ⟨0,σ,H2,I2,st2,fun b hb => (f2 b hb).1,w0⟩
 rintro n s3 ⟨i,σ3,H3,I3,st3,fr3,w3⟩
 rcases turn i n σ3 H3 w3 with ⟨stop,qn⟩ | ⟨go,N,hN,step⟩
 ·refine wpAny_passesOwn hp (thn (T.done X rfl rfl rfl hc i pins s3 σ3 H3 X.xe I3 (stat fr3) st3 stop) fun r s4 ⟨hr,I4⟩ => ?_)
  subst hr
  exact wpAny_execs_nil ⟨σ3,H3,I4,qn⟩
 ·refine wpAny_passesOwn hp (thn (T.item X rfl rfl rfl hc i pins s3 σ3 H3 X.xe I3 (stat fr3) st3 go) fun r s4 ⟨u,hr,h4⟩ => ?_)
  subst hr
  refine wpAny_passesOwn hp (thn h4 fun _ s5 ⟨x,H5,I5,r5,y5,st5,fr5⟩ => ?_)
  have I5' := I5.pinned (stat fr5) (T.obj _ _ st5)
  refine wpAny_passesOwn hp (thn (hg _ s5 σ3 H5 x u _ I5' r5 (step x H5 y5)) fun _ s6 ⟨σ6,H6,I6,q6⟩ => ?_)
  refine wpAny_passesOwn hp (thn (hb _ s6 σ6 H6 _ I6 q6) fun f s7 q7 => ?_)
  have again : ∀ {σ7 : St} {H7 : Hp},Inv X (pins ++ pinsAt fp s5.heap) σ7 H7 s7 → N σ7 H7 → ∃ m,m < n ∧ ∃ i σ' H',Inv X pins σ' H' s7 ∧ tn i s7.heap ∧ (∀ b ∈ fp,H' b = none) ∧ W i m σ' H' := fun {σ7 H7} I7 n7 => by
   obtain ⟨m',hm,w7⟩ := hN σ7 H7 n7
   refine ⟨m',hm,i + 1,σ7,H7,I7.unpinned,T.keep _ _ _ st5 fun b hb o e => (I7.pin (b,o) (List.mem_append_right _ (List.mem_append_right _ (mem_pinsAt hb e)))).1,fun b hb => ?_,w7⟩
   obtain ⟨o,e,d⟩ := T.obj _ _ st5 b hb
   exact (I7.pin (b,o) (List.mem_append_right _ (List.mem_append_right _ (mem_pinsAt hb e)))).2.1
  cases f with
  | next => obtain ⟨σ7,H7,I7,n7⟩ := q7; exact again I7 n7
  | cont => obtain ⟨σ7,H7,I7,n7⟩ := q7; exact again I7 n7
  | brk => obtain ⟨σ7,H7,I7,q7⟩ := q7; exact ⟨σ7,H7,I7.unpinned,q7⟩
  | ret v => obtain ⟨x7,σ7,H7,I7,r7,q7⟩ := q7; exact ⟨x7,σ7,H7,I7.unpinned,r7,q7⟩
end
abbrev R2 := V → V → Hp → VK → Prop
def OpR (X : Cx) (f : Value → Value → Sem Value) (r : R2) : Prop :=
 ∀ (pins : List (Addr × Obj)) (s : Shared) (σ : St) (H : Hp) (x y : V) (v u : Value) (Q : VK),Inv X pins σ H s → RelV x v → RelV y u → r x y H Q →
  wpAny (model X.prog X.w) X.A (f v u) (EP X pins σ Q) X.xe s
def UnR (X : Cx) (f : Value → Sem Value) (r : V → Hp → VK → Prop) : Prop :=
 ∀ (pins : List (Addr × Obj)) (s : Shared) (σ : St) (H : Hp) (x : V) (v : Value) (Q : VK),Inv X pins σ H s → RelV x v → r x H Q →
  wpAny (model X.prog X.w) X.A (f v) (EP X pins σ Q) X.xe s
def CallR (X : Cx) (f : Value) (r : List V → Hp → VK → Prop) : Prop :=
 ∀ (pins : List (Addr × Obj)) (s : Shared) (σ : St) (H : Hp) (xs : List V) (us : List Value) (Q : VK),Inv X pins σ H s → Vals xs us → r xs H Q →
  wpAny (model X.prog X.w) X.A (call f us) (EP X pins σ Q) X.xe s
def TruR (X : Cx) (r : V → Hp → (Bool → Hp → Prop) → Prop) : Prop :=
 ∀ (pins : List (Addr × Obj)) (s : Shared) (σ : St) (H : Hp) (x : V) (v : Value) (Q : Bool → Hp → Prop),Inv X pins σ H s → RelV x v → r x H Q →
  wpAny (model X.prog X.w) X.A (truthy v) (TP X pins σ Q) X.xe s
def tOp (r : R2) (ta tb : TE) : TE := fun σ H Q => ta σ H fun x H1 => tb σ H1 fun y H2 => r x y H2 Q
def tUn (r : V → Hp → VK → Prop) (ta : TE) : TE := fun σ H Q => ta σ H fun x H1 => r x H1 Q
def rI (C : Int → Int → Prop) (g : Int → Int → V) : R2 := fun x y H Q => ∃ i j,x = .int i ∧ y = .int j ∧ C i j ∧ Q (g i j) H
def rI0 (g : Int → Int → V) : R2 := fun x y H Q => ∃ i j,x = .int i ∧ y = .int j ∧ Q (g i j) H
def rU (g : Int → V) : V → Hp → VK → Prop := fun x H Q => ∃ i,x = .int i ∧ Q (g i) H
section
variable {X : Cx} {a b c : Expr} {ta tb tc : TE} {pos : Pos}
theorem binT (ha : PE X a ta) (hb : PE X b tb) {pins : List (Addr × Obj)} {s : Shared} {σ : St} {H : Hp} {R : V → V → Hp → Prop} (I : Inv X pins σ H s)
  (h : ta σ H fun x H1 => tb σ H1 fun y H2 => R x y H2) {Q : Value → Shared → Prop} {f : Value → Value → Sem Value}
  (hf : ∀ v u s2 x y H2,Inv X pins σ H2 s2 → RelV x v → RelV y u → R x y H2 → wpAny (model X.prog X.w) X.A (f v u) Q X.xe s2) :
  wpAny (model X.prog X.w) X.A (eval a X.env) (fun v s₁ => wpAny (model X.prog X.w) X.A (eval b X.env) (fun u s₂ => wpAny (model X.prog X.w) X.A (f v u) Q X.xe s₂) X.xe s₁) X.xe s := by
 refine thn (ha pins s σ H _ I h) fun v s1 ⟨x,H1,I1,r1,q1⟩ => ?_
 refine thn (hb pins s1 σ H1 _ I1 q1) fun u s2 ⟨y,H2,I2,r2,q2⟩ => ?_
 exact hf v u s2 x y H2 I2 r1 r2 q2
theorem pe_op {op : Operator} {r : R2} (ho : OpR X (binaryOp op) r) (ha : PE X a ta) (hb : PE X b tb) : PE X (.BinOp a op b pos) (tOp r ta tb) := by
 intro pins s σ H Q I h
 exact wpAny_BinOp (binT ha hb I h fun v u s2 x y H2 I2 rx ry q => ho pins s2 σ H2 x y v u Q I2 rx ry q)
theorem pe_un {op : UnaryOp} {r : V → Hp → VK → Prop} (ho : UnR X (unaryOp op) r) (ha : PE X a ta) : PE X (.UnaryOp op a pos) (tUn r ta) := by
 intro pins s σ H Q I h
 exact UnaryOp_ (thn (ha pins s σ H _ I h) fun v s1 ⟨x,H1,I1,r1,q1⟩ => ho pins s1 σ H1 x v Q I1 r1 q1)
theorem opI {f : Value → Value → Sem Value} {C : Int → Int → Prop} {g : Int → Int → Int}
  (rule : ∀ (i j : Int) (t u : Tok) (s : Shared) (Q : Value → Shared → Prop) (E : Value → Shared → Prop),C i j → Q (.int (g i j) s.toks) { s with toks := s.toks + 1 } → wpAny (model X.prog X.w) X.A (f (.int i t) (.int j u)) Q E s) :
  OpR X f (rI C fun i j => .int (g i j)) := by
 intro pins s σ H x y v u Q I rx ry h
 obtain ⟨i,j,rfl,rfl,hc,q⟩ := h
 obtain ⟨t,rfl⟩ := rx
 obtain ⟨t',rfl⟩ := ry
 exact rule i j t t' s _ _ hc ⟨.int (g i j),H,I.tok _,⟨_,rfl⟩,q⟩
theorem opI0 {f : Value → Value → Sem Value} {g : Int → Int → Int}
  (rule : ∀ (i j : Int) (t u : Tok) (s : Shared) (Q : Value → Shared → Prop) (E : Value → Shared → Prop),Q (.int (g i j) s.toks) { s with toks := s.toks + 1 } → wpAny (model X.prog X.w) X.A (f (.int i t) (.int j u)) Q E s) :
  OpR X f (rI0 fun i j => .int (g i j)) := by
 intro pins s σ H x y v u Q I rx ry h
 obtain ⟨i,j,rfl,rfl,q⟩ := h
 obtain ⟨t,rfl⟩ := rx
 obtain ⟨t',rfl⟩ := ry
 exact rule i j t t' s _ _ ⟨.int (g i j),H,I.tok _,⟨_,rfl⟩,q⟩
theorem opB0 {f : Value → Value → Sem Value} {g : Int → Int → Bool}
  (rule : ∀ (i j : Int) (t u : Tok) (s : Shared) (Q : Value → Shared → Prop) (E : Value → Shared → Prop),Q (.bool (g i j)) s → wpAny (model X.prog X.w) X.A (f (.int i t) (.int j u)) Q E s) :
  OpR X f (rI0 fun i j => .bl (g i j)) := by
 intro pins s σ H x y v u Q I rx ry h
 obtain ⟨i,j,rfl,rfl,q⟩ := h
 obtain ⟨t,rfl⟩ := rx
 obtain ⟨t',rfl⟩ := ry
 exact rule i j t t' s _ _ ⟨.bl (g i j),H,I,rfl,q⟩
def CPow (i j : Int) : Prop := 0 ≤ j ∧ j ≤ 1000000 ∧ i.natAbs < 2 ^ 64
def CMul (i j : Int) : Prop := (-(2 ^ 64) < i ∧ i < 2 ^ 64) ∨ (-(2 ^ 64) < j ∧ j < 2 ^ 64)
theorem CMul.ok {i j : Int} (h : CMul i j) : IntMulOk i j := by
 rcases h with ⟨h1,h2⟩ | ⟨h1,h2⟩
 ·exact .of_left (intBits_le_64 h1 h2)
 ·exact .of_right (intBits_le_64 h1 h2)
theorem op_add : OpR X (binaryOp .Add) (rI0 fun i j => .int (i + j)) := opI0 fun _ _ _ _ _ _ _ q => add_int q
theorem op_sub : OpR X (binaryOp .Sub) (rI0 fun i j => .int (i - j)) := opI0 fun _ _ _ _ _ _ _ q => sub_int q
theorem op_mul : OpR X (binaryOp .Mult) (rI CMul fun i j => .int (i * j)) := opI fun _ _ _ _ _ _ _ hc q => mul_int q hc.ok
theorem op_mod : OpR X (binaryOp .Mod) (rI (fun _ j => 0 < j) fun i j => .int (i % j)) := opI fun i j _ _ _ _ _ hc q => by
 have h1 : (0 : Int) < j := hc
 exact mod_int' (by omega) (by rw [Int.fmod_eq_emod_of_nonneg i (by omega)]; exact q)
theorem op_pow : OpR X (binaryOp .Pow) (rI CPow fun i j => .int (i ^ j.toNat)) := opI fun _ _ _ _ _ _ _ hc q => pow_int_small hc.1 hc.2.1 hc.2.2 q
theorem unI {f : Value → Sem Value} {g : Int → Int}
  (rule : ∀ (i : Int) (t : Tok) (s : Shared) (Q : Value → Shared → Prop) (E : Value → Shared → Prop),Q (.int (g i) s.toks) { s with toks := s.toks + 1 } → wpAny (model X.prog X.w) X.A (f (.int i t)) Q E s) :
  UnR X f (rU fun i => .int (g i)) := by
 intro pins s σ H x v Q I rx h
 obtain ⟨i,rfl,q⟩ := h
 obtain ⟨t,rfl⟩ := rx
 exact rule i t s _ _ ⟨.int (g i),H,I.tok _,⟨_,rfl⟩,q⟩
theorem un_neg : UnR X (unaryOp .USub) (rU fun i => .int (-i)) := unI fun _ _ _ _ _ q => neg_int q
end
section
variable {X : Cx} {a b c : Expr} {ta tb tc : TE} {pos : Pos}
theorem op_lt : OpR X (compareOp .Lt) (rI0 fun i j => .bl (decide (i < j))) := opB0 fun _ _ _ _ _ _ _ q => lt_int q
theorem op_le : OpR X (compareOp .LtE) (rI0 fun i j => .bl (decide (i ≤ j))) := opB0 fun _ _ _ _ _ _ _ q => le_int q
theorem op_gt : OpR X (compareOp .Gt) (rI0 fun i j => .bl (decide (j < i))) := opB0 fun _ _ _ _ _ _ _ q => gt_int q
theorem op_ge : OpR X (compareOp .GtE) (rI0 fun i j => .bl (decide (j ≤ i))) := opB0 fun _ _ _ _ _ _ _ q => ge_int q
theorem OpR.or {f : Value → Value → Sem Value} {r r' : R2} (h : OpR X f r) (h' : OpR X f r') : OpR X f (fun x y H Q => r x y H Q ∨ r' x y H Q) := by
 intro pins s σ H x y v u Q I rx ry q
 rcases q with q | q
 ·exact h pins s σ H x y v u Q I rx ry q
 ·exact h' pins s σ H x y v u Q I rx ry q
theorem nomark (b : Expr) {op : CmpOp} (h : op ≠ .In := by decide) (h2 : op ≠ .NotIn := by decide) : behindInMarks op b = false := by
 have e1 : (op == CmpOp.In) = false := by cases op <;> first | rfl | exact absurd rfl h
 have e2 : (op == CmpOp.NotIn) = false := by cases op <;> first | rfl | exact absurd rfl h2
 cases b <;> simp [behindInMarks,e1,e2]
theorem pe_cmpR {op : CmpOp} {r : R2} (ho : OpR X (compareOp op) r) (ha : PE X a ta) (hb : PE X b tb) (hm : behindInMarks op b = false) : PE X (.Compare a [op] [b] pos) (tOp r ta tb) := by
 intro pins s σ H Q I h
 exact wpAny_Compare1 (binT ha hb I h fun v u s2 x y H2 I2 rx ry q => ho pins s2 σ H2 x y v u Q I2 rx ry q) hm
def tTest (t : TE) : TT := fun σ H Q => t σ H fun x H' => ∃ k,x = .bl k ∧ Q k H'
theorem pt_cmpR {op : CmpOp} {r : R2} (ho : OpR X (compareOp op) r) (ha : PE X a ta) (hb : PE X b tb) (hm : behindInMarks op b = false) : PT X (.Compare a [op] [b] pos) (tTest (tOp r ta tb)) := by
 intro pins s σ H Q I h
 refine wpAny_isTrue_Compare1 (thn (ha pins s σ H _ I h) fun v s1 ⟨x,H1,I1,r1,q1⟩ => thn (hb pins s1 σ H1 _ I1 q1) fun u s2 ⟨y,H2,I2,r2,q2⟩ =>
  thn (ho pins s2 σ H2 x y v u _ I2 r1 r2 q2) fun c s3 ⟨z,H3,I3,r3,k,e,q3⟩ => ?_) hm
 subst e
 cases r3
 exact wpAny_truthy_bool ⟨H3,I3,q3⟩
def tChain (r r' : R2) (ta tb tc : TE) : TE := fun σ H Q => ta σ H fun x H1 => tb σ H1 fun y H2 => r x y H2 fun z H3 => ∃ k,z = .bl k ∧
 (if k = true then tc σ H3 fun w' H4 => r' y w' H4 Q else Q (.bl false) H3)
theorem pe_chain {op op' : CmpOp} {r r' : R2} (ho : OpR X (compareOp op) r) (ho' : OpR X (compareOp op') r') (ha : PE X a ta) (hb : PE X b tb) (hc : PE X c tc)
  (hm : lastMarks [op,op'] [b,c] = false := by with_unfolding_all rfl) : PE X (.Compare a [op,op'] [b,c] pos) (tChain r r' ta tb tc) := by
 intro pins s σ H Q I h
 refine Compare_chain (thn (ha pins s σ H _ I h) fun v s1 ⟨x,H1,I1,r1,q1⟩ => chain_link (thn (hb pins s1 σ H1 _ I1 q1) fun u s2 ⟨y,H2,I2,r2,q2⟩ =>
  thn (ho pins s2 σ H2 x y v u _ I2 r1 r2 q2) fun d s3 ⟨z,H3,I3,r3,k,e,q3⟩ => ?_)) hm
 subst e
 cases r3
 refine wpAny_truthy_bool ?_
 cases k with
 | false => exact ite_ff ⟨.bl false,H3,I3,rfl,q3⟩
 | true => exact ite_tt (chain_last (thn (hc pins s3 σ H3 _ I3 q3) fun w' s4 ⟨z',H4,I4,r4,q4⟩ => ho' pins s4 σ H4 y z' u w' Q I4 r2 r4 q4))
def TruV (K : PySem.W.Frag) (x : V) (H : Hp) (k : Bool) : Prop :=
 match x with
 | .non => k = false
 | .bl b => k = b
 | .int i => k = (i != 0)
 | .str y => y.length ≤ sizeLine ∧ k = ((y.length : Int) != 0)
 | .byt y => y.size ≤ sizeLine ∧ k = ((y.size : Int) != 0)
 | .ref p => (∃ xs,SqL K H p xs ∧ k = !xs.isEmpty) ∨ (∃ xs,SqT K H p xs ∧ k = !xs.isEmpty) ∨ ∃ kvs,H p = some (.dK kvs) ∧ k = !kvs.isEmpty
 | _ => False
theorem isEmpty_kv {κ : Type} {kvs : List (κ × V)} {vs : List (κ × Value)} (r : KV kvs vs) : (!vs.isEmpty) = !kvs.isEmpty := by
 cases r <;> rfl
theorem isEmpty_of {xs : List V} {its : List Value} (r : Vals xs its) : (!its.toArray.isEmpty) = !xs.isEmpty := by
 cases r <;> simp
theorem line63 : (sizeLine : Nat) < 2 ^ 63 := by rw [sizeLine_eq]; decide
theorem tru_ok : TruR X (fun x H Q => ∃ k,TruV X.K x H k ∧ Q k H) := by
 intro pins s σ H x v Q I rx h
 obtain ⟨k,e,q⟩ := h
 have hl := line63
 have hs : sizeLine = 16777216 := sizeLine_eq
 cases x with
 | non =>
  cases rx
  have e' : k = false := e
  subst e'
  exact truthy_none ⟨H,I,q⟩
 | bl b =>
  cases rx
  have e' : k = b := e
  subst e'
  exact wpAny_truthy_bool ⟨H,I,q⟩
 | int i =>
  obtain ⟨t,rfl⟩ := rx
  have e' : k = (i != 0) := e
  subst e'
  exact PySem.P.truthy_int ⟨H,I,q⟩
 | str y =>
  obtain ⟨t,rfl⟩ := rx
  obtain ⟨hy,e'⟩ : y.length ≤ sizeLine ∧ k = ((y.length : Int) != 0) := e
  subst e'
  exact PySem.P.truthy_str (by omega) ⟨H,I.tok _,q⟩
 | byt y =>
  obtain ⟨t,rfl⟩ := rx
  obtain ⟨hy,e'⟩ : y.size ≤ sizeLine ∧ k = ((y.size : Int) != 0) := e
  subst e'
  exact PySem.W.truthy_bytes (by omega) ⟨H,I.tok _,q⟩
 | ref p =>
  cases rx
  have e' : (∃ xs,SqL X.K H p xs ∧ k = !xs.isEmpty) ∨ (∃ xs,SqT X.K H p xs ∧ k = !xs.isEmpty) ∨ ∃ kvs,H p = some (.dK kvs) ∧ k = !kvs.isEmpty := e
  rcases e' with ⟨xs,hx,e'⟩ | ⟨xs,hx,e'⟩ | ⟨kvs,hx,e'⟩
  ·subst e'
   obtain ⟨its,r,pl,hz⟩ := I.list hx
   have hlen := r.length
   exact wpAny_truthy_list pl.isList (by simp only [List.size_toArray]; omega) ⟨H,I.tok _,by rw [isEmpty_of r]; exact q⟩
  ·subst e'
   obtain ⟨its,r,pl,hz⟩ := I.tuple hx
   have hlen := r.length
   exact truthy_tuple pl (by simp only [List.size_toArray]; omega) ⟨H,I.tok _,by rw [isEmpty_of r]; exact q⟩
  ·subst e'
   obtain ⟨hz,hS,vs,r,m⟩ : kvs.length ≤ sizeLine ∧ (p == sysModules) = false ∧ ∃ vs,KV kvs vs ∧ s.heap.DictOf (mixKind X.prog X.w) p vs := I.hok p _ hx
   have hlen : kvs.length = vs.length := Paired.length r
   exact wpAny_truthy_dict hS m (by omega) ⟨H,I.tok _,by rw [isEmpty_kv r]; exact q⟩
 | _ => exact (show False from e).elim
theorem pt_truth (ha : PE X a ta) (he : ∀ whole,isTrue a X.env whole = (do let v ← whole; standAt a.pos; holding [v] (truthy v))) :
  PT X a (fun σ H Q => ta σ H fun x H' => ∃ k,TruV X.K x H' k ∧ Q k H') := by
 intro pins s σ H Q I h
 exact isTrue_plain (thn (ha pins s σ H _ I h) fun v s1 ⟨x,H1,I1,r1,q1⟩ => tru_ok pins s1 σ H1 x v Q I1 r1 q1) (he _)
theorem vals1 {x : V} {us : List Value} (r : Vals [x] us) : ∃ u,us = [u] ∧ RelV x u := by
 cases r with
 | cons r1 r2 => cases r2; exact ⟨_,rfl,r1⟩
theorem vals2 {x y : V} {us : List Value} (r : Vals [x,y] us) : ∃ u w',us = [u,w'] ∧ RelV x u ∧ RelV y w' := by
 cases r with
 | cons r1 r2 =>
  cases r2 with
  | cons r3 r4 => cases r4; exact ⟨_,_,rfl,r1,r3⟩
theorem call_abs : CallR X (.builtin "abs") (fun xs H Q => ∃ i, xs = [.int i] ∧ Q (.int (if i < 0 then -i else i)) H) := by
 intro pins s σ H xs us Q I r h
 obtain ⟨i,rfl,q⟩ := h
 obtain ⟨u,rfl,t,rfl⟩ := vals1 r
 exact call_abs_int fun u tk => ⟨.int (if i < 0 then -i else i),H,I.tok _,⟨_,rfl⟩,q⟩
theorem call_max2 (hc : X.calm = true) : CallR X (.builtin "max") (fun xs H Q => ∃ i j, xs = [.int i, .int j] ∧ Q (.int (if j > i then j else i)) H) := by
 intro pins s σ H xs us Q I r h
 obtain ⟨i,j,rfl,q⟩ := h
 obtain ⟨u,w',rfl,⟨t,rfl⟩,⟨t',rfl⟩⟩ := vals2 r
 refine max_two_ints (I.ok.hd hc) fun h' tk k => ⟨_,H,I.kept k,?_,q⟩
 by_cases hj : j > i
 ·rw [if_pos hj,if_pos hj]; exact ⟨_,rfl⟩
 ·rw [if_neg hj,if_neg hj]; exact ⟨_,rfl⟩
theorem call_min2 (hc : X.calm = true) : CallR X (.builtin "min") (fun xs H Q => ∃ i j, xs = [.int i, .int j] ∧ Q (.int (if j < i then j else i)) H) := by
 intro pins s σ H xs us Q I r h
 obtain ⟨i,j,rfl,q⟩ := h
 obtain ⟨u,w',rfl,⟨t,rfl⟩,⟨t',rfl⟩⟩ := vals2 r
 refine min_two_ints (I.ok.hd hc) fun h' tk k => ⟨_,H,I.kept k,?_,q⟩
 by_cases hj : j < i
 ·rw [if_pos hj,if_pos hj]; exact ⟨_,rfl⟩
 ·rw [if_neg hj,if_neg hj]; exact ⟨_,rfl⟩
end
structure ObjM (h : Heap) (x dx C : Addr) (mA : Str → Option Value) : Prop where
 obj : h.get? x = some (PySem.W.instObj C dx)
 ns : h.Ns1 dx mA
 ne : dx ≠ x
theorem lookIn_ns {h : Heap} {dx : Addr} {mA : Str → Option Value} (n : h.Ns1 dx mA) : ∃ od,h.get? dx = some od ∧ ∀ name,PySem.W.lookIn name od = some (mA name) := by
 obtain ⟨o,es,ep,ho,hd,hk,_,hm⟩ := n
 refine ⟨o,ho,fun name => ?_⟩
 have e := hm name
 unfold nsFind findBy at e
 rw [← Array.find?_toList] at e
 unfold PySem.W.lookIn
 rw [hd]
 dsimp only
 split
 ·rename_i y q
  rw [q] at e
  exact congrArg some e
 ·rename_i q
  rw [q] at e
  have a : es.toList.any (·.refKey) = false := by
   rw [List.any_eq_false]
   intro y hy
   obtain ⟨z,t,hkey⟩ := hk y (Array.mem_toList_iff.mp hy)
   simp [DictEntry.refKey,hkey]
  have a' : ¬ es.toList.any (·.refKey) = true := by rw [a]; exact Bool.false_ne_true
  rw [if_neg a']
  exact congrArg some e
theorem ObjM.look {h : Heap} {x dx C : Addr} {mA : Str → Option Value} (I : ObjM h x dx C mA) : ∃ od,PySem.W.InstAt h x (PySem.W.instObj C dx) C (some od) ∧ ∀ name,PySem.W.lookIn name od = some (mA name) :=
 let ⟨od,ho,hl⟩ := lookIn_ns I.ns
 ⟨od,⟨I.obj,rfl,rfl,ho⟩,hl⟩
section
variable {prog : Program} {w : World} {A : Around} {E : Value → Shared → Prop} {s : Shared} {K : PySem.W.Frag} {x dx C f : Addr} {mA : Str → Option Value} {name : Str} {v : Value}
end
theorem RelO.some_of {v : V} {o : Option Value} (r : RelO (some v) o) : ∃ u,o = some u ∧ RelV v u := by
 cases o with
 | none => exact (show False from r).elim
 | some u => exact ⟨u,rfl,r⟩
section
variable {P : Program} {w : World} {H H' : Hp} {h h' : Heap} {a C dx : Addr} {fs fs' : List (Str × V)}
theorem ins_get (hok : HOk P w H h) (e : H a = some (.ins C dx fs)) : ∃ mA,ObjM h a dx C mA ∧ (∀ f,RelO (fs.lookup f) (mA f)) ∧ PySem.Within mA (fs.map (·.1)) ∧ fs.length ≤ 1000 ∧ H dx = some (.own a) := by
 obtain ⟨d,z,ne,ob,mA,n,r,q⟩ := (show ObjOk P w H h a (.ins C dx fs) from hok a _ e)
 exact ⟨mA,⟨ob,n,ne⟩,r,q,z,d⟩
end
structure Cls (K : PySem.W.Frag) (C : Addr) : Prop where
 pg : PySem.W.plainGet K C Str.empty = true
 hd : PySem.W.hasDictIn K C = true
 po : PySem.W.plainOver K C = true
 sa : PySem.W.findIn K (.ref C) "__setattr__" = some (some (.builtin "object.__setattr__"))
theorem Cls.get {K : PySem.W.Frag} {C : Addr} (c : Cls K C) (f : Str) : PySem.W.plainGet K C f = true := c.pg
section
variable {X : Cx} {pins : List (Addr × Obj)} {σ : St} {H : Hp} {s : Shared} {a C dx : Addr} {fs : List (Str × V)} {f : Str} {v : V} {A : Around} {E : Value → Shared → Prop}
end
section
variable {X : Cx} {o e value : Expr} {f : Str} {pos pos' tpos : Pos} {ta tv : TE}
end
section
variable {X : Cx} {pins : List (Addr × Obj)} {σ : St} {H : Hp} {s : Shared} {A : Around} {E : Value → Shared → Prop} {Q : Value → Shared → Prop} {c : Value} {b : Bool}
inductive TyOf (K : PySem.W.Frag) (H : Hp) : V → Value → Prop where
 | non : TyOf K H .non (.type "NoneType")
 | bl (x : Bool) : TyOf K H (.bl x) (.type "bool")
 | int (i : Int) : TyOf K H (.int i) (.type "int")
 | str (x : Str) : TyOf K H (.str x) (.type "str")
 | flt (x : UInt64) : TyOf K H (.flt x) (.type "float")
 | lst {a : Addr} {xs : List V} (e : H a = some (.lst xs)) : TyOf K H (.ref a) (.type "list")
 | frz {a : Addr} {o : Obj} {xs : List V} (e : H a = some (.frz o (.lst xs))) : TyOf K H (.ref a) (.type "list")
 | tup {a : Addr} {xs : List V} (e : H a = some (.tup xs)) : TyOf K H (.ref a) (.type "tuple")
 | dK {a : Addr} {kvs : List (Key × V)} (e : H a = some (.dK kvs)) : TyOf K H (.ref a) (.type "dict")
 | dT {a : Addr} {kvs : List (List Key × V)} (e : H a = some (.dT kvs)) : TyOf K H (.ref a) (.type "dict")
 | ins {a C dx : Addr} {fs : List (Str × V)} (e : H a = some (.ins C dx fs)) (cl : Cls K C) (ha : PySem.W.findIn K (.ref C) "__class__" = some (some (.builtin "object.__class__")))
   (hn : PySem.W.specialIn K (.builtin "object.__class__") "__get__" = some (some (.builtin "getset_descriptor.__get__"))) (htk : PySem.W.takesIn K (.builtin "object.__class__") = some true)
   (hm : PySem.W.mroIn K C (.type "object") = some true) : TyOf K H (.ref a) (.ref C)
theorem isinst_ok {x : V} {u t : Value} (I : Inv X pins σ H s) (rx : RelV x u) (ty : TyOf X.K H x t) (e : PySem.W.kitOne X.K t c = some b) (h : ∀ tk,Q (.bool b) { s with toks := tk }) :
  wpAny (model X.prog X.w) A (call (.builtin "isinstance") [u, c]) Q E s := by
 cases ty with
 | non => cases (show u = Value.none from rx); exact PySem.W.kia_one PySem.W.kitx_none I.kIn True.intro e (fun z => nomatch z) h
 | bl y => cases (show u = Value.bool y from rx); exact PySem.W.kia_one PySem.W.kitx_bool I.kIn True.intro e (fun z => nomatch z) h
 | int i => obtain ⟨t,q⟩ := (show ∃ t,u = Value.int i t from rx); cases q; exact PySem.W.kia_one PySem.W.kitx_int I.kIn True.intro e (fun z => nomatch z) h
 | str y => obtain ⟨t,q⟩ := (show ∃ t,u = Value.str y t from rx); cases q; exact PySem.W.kia_one PySem.W.kitx_str I.kIn True.intro e (fun z => nomatch z) h
 | flt y => obtain ⟨t,q⟩ := (show ∃ t,u = Value.float y t from rx); cases q; exact PySem.W.kia_one PySem.W.kitx_float I.kIn True.intro e (fun z => nomatch z) h
 | @lst a xs ea =>
  cases (show u = Value.ref a from rx)
  obtain ⟨_,_,n,_,h1⟩ := (show ObjOk X.prog X.w H s.heap a (.lst xs) from I.hok a _ ea)
  exact PySem.W.kia_one PySem.W.kitx_list I.kIn ⟨_,h1,rfl⟩ e (fun z => nomatch z) h
 | @frz a ob xs ea =>
  cases (show u = Value.ref a from rx)
  obtain ⟨_,_,_,n,_,h1⟩ := (show ObjOk X.prog X.w H s.heap a (.frz ob (.lst xs)) from I.hok a _ ea)
  exact PySem.W.kia_one PySem.W.kitx_list I.kIn ⟨_,h1,rfl⟩ e (fun z => nomatch z) h
 | @tup a xs ea =>
  cases (show u = Value.ref a from rx)
  obtain ⟨_,_,_,p⟩ := (show ObjOk X.prog X.w H s.heap a (.tup xs) from I.hok a _ ea)
  obtain ⟨o,h1,h2,_⟩ := p
  exact PySem.W.kia_one PySem.W.kitx_tuple I.kIn ⟨o,h1,h2⟩ e (fun z => nomatch z) h
 | @dK a kvs ea =>
  cases (show u = Value.ref a from rx)
  obtain ⟨_,_,vs,_,p⟩ := (show ObjOk X.prog X.w H s.heap a (.dK kvs) from I.hok a _ ea)
  obtain ⟨o,es,ep,h1,h2,_⟩ := p
  exact PySem.W.kia_one PySem.W.kitx_dict I.kIn ⟨o,h1,h2.1⟩ e (fun z => nomatch z) h
 | @dT a kvs ea =>
  cases (show u = Value.ref a from rx)
  obtain ⟨_,_,xs,_,o,es,ep,h1,h2,_⟩ := (show ObjOk X.prog X.w H s.heap a (.dT kvs) from I.hok a _ ea)
  exact PySem.W.kia_one PySem.W.kitx_dict I.kIn ⟨o,h1,h2.1⟩ e (fun z => nomatch z) h
 | @ins a C dx fs ea cl ha hn htk hm =>
  cases (show u = Value.ref a from rx)
  obtain ⟨mA,O,_⟩ := ins_get I.hok ea
  obtain ⟨od,J,_⟩ := O.look
  exact PySem.W.kia_one (PySem.W.kitx_own (cl.get _) cl.hd ha hn htk hm) I.kIn J e (fun z => nomatch z) h
end
structure Room (k : Nat) (A : Around) : Prop where
 hd : A.handled = none
 dp : A.depth + 3 * k + 5 < recursionLimit
 un : A.units + 16 * k + 200 < cLine
theorem Room.mono {j k : Nat} {A : Around} (r : Room k A) (h : j ≤ k) : Room j A := ⟨r.hd,by have := r.dp; omega,by have := r.un; omega⟩
theorem Room.deeper {k : Nat} {A : Around} (r : Room (k + 1) A) (env : Env) : Room k (A.deeper env) :=
 ⟨r.hd,by have := r.dp; show A.depth + 1 + 3 * k + 5 < _; omega,by have := r.un; show A.units + 3 + 16 * k + 200 < _; omega⟩
theorem Room.depth {k : Nat} {A : Around} (r : Room k A) : A.depth < recursionLimit := by have := r.dp; omega
theorem Room.units {k : Nat} {A : Around} (r : Room k A) : A.units + 64 < cLine := by have := r.un; omega
def tNil : TA := fun _ H Q => Q [] H
def tCons (ta : TE) (tr : TA) : TA := fun σ H Q => ta σ H fun x H1 => tr σ H1 fun xs H2 => Q (x :: xs) H2
section
variable {X : Cx} {e : Expr} {es : List Expr} {te : TE} {t : TA} {pos : Pos}
theorem pa_nil : PA X [] tNil := fun _ _ _ _ H Q I h => Calls.spliced_nil ⟨[],H,I,.nil,h⟩
theorem pa_cons (ha : PE X e te) (hr : PA X es t) (hs : starEach (e :: es) X.env = (false,eval e X.env) :: starEach es X.env := by rfl) : PA X (e :: es) (tCons te t) := by
 intro pos pins s σ H Q I h
 rw [hs]
 show wpAny _ _ (spliced ((false,eval e X.env) :: backTo pos (starEach es X.env))) _ _ s
 refine Calls.spliced_cons (thn (ha pins s σ H _ I h) fun u s1 ⟨x,H1,I1,r1,q1⟩ => ?_)
 exact thn (hr pos pins s1 σ H1 _ I1 q1) fun us s2 ⟨xs,H2,I2,r2,q2⟩ => ⟨x :: xs,H2,I2,.cons r1 r2,q2⟩
def tTup (t : TA) : TE := fun σ H Q => t σ H fun xs H1 => xs.length ≤ sizeLine ∧ ∀ p,H1 p = none → Q (.ref p) (upd H1 p (.tup xs))
def tLst (t : TA) : TE := fun σ H Q => t σ H fun xs H1 => xs.length ≤ sizeLine ∧ ∀ p,H1 p = none → Q (.ref p) (upd H1 p (.lst xs))
theorem pe_tup {x1} (h : PA X es t) : PE X (.Tuple es x1 pos) (tTup t) := by
 intro pins s σ H Q I hq
 refine wpAny_Tuple_spliced (thn (h pos pins s σ H _ I hq) fun us s1 ⟨xs,H1,I1,r,z,q⟩ => ⟨by rw [← r.length]; exact z,?_⟩)
 have hf : H1 s1.heap.objs.size = none := I1.hok.fresh (Nat.le_refl _)
 refine ⟨.ref s1.heap.objs.size,upd H1 s1.heap.objs.size (.tup xs),I1.laid (t' := s1.toks) (fun b u e => Heap.get?_push_of_some _ e) (Nat.le_refl _) ?_,rfl,q _ hf⟩
 exact ⟨z,us,r,⟨_,Heap.get?_push_size _ rfl,rfl,_,rfl⟩⟩
theorem pe_lst (h : PA X es t) : PE X (.List es pos) (tLst t) := by
 intro pins s σ H Q I hq
 refine wpAny_List_spliced (thn (h pos pins s σ H _ I hq) fun us s1 ⟨xs,H1,I1,r,z,q⟩ => ⟨by rw [← r.length]; exact z,?_⟩)
 have hf : H1 s1.heap.objs.size = none := I1.hok.fresh (Nat.le_refl _)
 refine ⟨.ref s1.heap.objs.size,upd H1 s1.heap.objs.size (.lst xs),I1.laid (t' := s1.toks) (fun b u e => Heap.get?_push_of_some _ e) (Nat.le_refl _) ?_,rfl,q _ hf⟩
 exact ⟨z,us,0,r,Heap.get?_push_size _ rfl⟩
end
abbrev Sp := List V → Hp → VK → XK → Prop
abbrev CXT := List Env → Hp → Shared → XK → Value → Shared → Prop
structure Env0 (P : Program) (w : World) (K : PySem.W.Frag) (mg : Str → Option Value) (base : Heap) (A : Around) (outer : List Env) (s : Shared) (H : Hp) : Prop where
 frames : A.frames = some outer
 mod : Mod K mg base
 bs : ∀ b o,base.get? b = some o → s.heap.get? b = some o ∧ H b = none
 bsz : base.objs.size ≤ s.heap.objs.size
 funs : s.heap.FunFrames base outer
 frf : ∀ b ∈ frs outer,H b = none
 hok : HOk P w H s.heap
 bare : AllBare s.gens
def CE (outer : List Env) (P : Program) (w : World) (H : Hp) (s : Shared) (Q : VK) (u : Value) (s' : Shared) : Prop :=
 ∃ v H',s'.os = s.os ∧ AllBare s'.gens ∧ Un (frs outer) [] H H' s.heap s'.heap ∧ HOk P w H' s'.heap ∧ RelV v u ∧ Q v H'
def CR (CX : CXT) (outer : List Env) (P : Program) (w : World) (H : Hp) (s : Shared) (Q : VK) (E : XK) (r : Result) (s' : Shared) : Prop :=
 match r with
 | .ok (.ret u) => CE outer P w H s Q u s'
 | .ok _ => False
 | .error e => CX outer H s E e s'
structure FnOk (P : Program) (w : World) (K : PySem.W.Frag) (mg : Str → Option Value) (base : Heap) (CX : CXT) (k : Nat) (f : Addr) (fd : FuncData) (ps : List Str) (sp : Sp) : Prop where
 len : ∀ vs H Q E,sp vs H Q E → vs.length = ps.length
 run : ∀ (A : Around) (outer : List Env) (s : Shared) (H : Hp) (args : Args) (us : List Value) (vs : List V) (Q : VK) (E : XK),Room k A → Env0 P w K mg base A outer s H → BindsTo s fd args (ps.zip us) → Vals vs us → sp vs H Q E →
  codeAny (model P w) A (.call (.ref f) args) (CR CX outer P w H s Q E) s
section
variable {X : Cx} {pins : List (Addr × Obj)} {σ : St} {H : Hp} {s s' : Shared}
theorem Inv.env0 (I : Inv X pins σ H s) : Env0 X.prog X.w X.K X.mg X.base X.A X.stack s H :=
 ⟨I.ok.frames,I.ok.mod,I.bs,Nat.le_trans I.ok.bsz I.sz,I.stack,I.stkFree,I.hok,I.bare⟩
theorem Inv.after {Q : VK} {u : Value} (I : Inv X pins σ H s) (h : CE X.stack X.prog X.w H s Q u s') : EP X pins σ Q u s' := by
 obtain ⟨v,H',os,bare,un,hok,r,q⟩ := h
 obtain ⟨hh,g,d,t,os'⟩ := s'
 obtain rfl : os' = s.os := os
 exact ⟨v,H',I.call (h' := hh) (g' := g) (d' := d) (t' := t) (ch := []) un hok bare (fun b z => absurd z (by simp)),r,q⟩
end
def tCall (sp : Sp) (dvs : List V) (E : XK) (t : TA) : TE := fun σ H Q => t σ H fun vs H1 => sp (vs ++ dvs) H1 Q E
def Binds (K : PySem.W.Frag) (fd : FuncData) (ps : List Str) (ds : List Value) : Prop :=
 ∀ (s : Shared) (us : List Value),K.In s.heap → (us ++ ds).length = ps.length → BindsTo s fd ⟨us,[]⟩ (ps.zip (us ++ ds))
theorem Binds.all {K : PySem.W.Frag} {fd : FuncData} {ps : List Str} (h : ∀ us : List Value,us.length = ps.length → bindArgs fd ⟨us,[]⟩ = pure (ps.zip us)) : Binds K fd ps [] := fun s us _ hl => by
 rw [List.append_nil] at hl ⊢
 exact .of_eq (h us hl)
def Passes (CX : CXT) (X : Cx) (E : XK) : Prop := ∀ (pins : List (Addr × Obj)) (σ : St) (H : Hp) (s : Shared) (e : Value) (s' : Shared),Inv X pins σ H s → CX X.stack H s E e s' → X.xe e s'
section
variable {X : Cx} {CX : CXT} {k : Nat} {f C : Addr} {fd : FuncData} {ps : List Str} {sp : Sp} {dvs : List V} {ds : List Value} {E : XK} {x m : Str} {p pos apos : Pos} {e o : Expr} {es : List Expr} {ta : TE} {t : TA}
theorem run_fn {pins : List (Addr × Obj)} {σ : St} {H : Hp} {s : Shared} {Q : VK} {us : List Value} {vs : List V} (F : FnOk X.prog X.w X.K X.mg X.base CX k f fd ps sp) (hr : Room k X.A) (hb : Binds X.K fd ps ds) (hd : Vals dvs ds) (hx : Passes CX X E)
  (I : Inv X pins σ H s) (r : Vals vs us) (h : sp (vs ++ dvs) H Q E) : wpAny (model X.prog X.w) X.A (call (.ref f) us) (EP X pins σ Q) X.xe s := by
 have r2 : Vals (vs ++ dvs) (us ++ ds) := r.append hd
 have hl : (us ++ ds).length = ps.length := by rw [← r2.length]; exact F.len _ _ _ _ h
 refine wpAny_call (codeAny_mono (F.run X.A X.stack s H ⟨us,[]⟩ (us ++ ds) (vs ++ dvs) Q E hr I.env0 (hb s us I.kIn hl) r2 h) fun r s' hq => ?_)
 cases r with
 | error e => exact hx pins σ H s e s' I hq
 | ok fl =>
  cases fl with
  | ret u => exact I.after hq
  | next => exact False.elim hq
  | brk => exact False.elim hq
  | cont => exact False.elim hq
theorem pe_call (F : FnOk X.prog X.w X.K X.mg X.base CX k f fd ps sp) (hr : Room k X.A) (hg : Gl X x) (hm : X.mg x = some (.ref f)) (hk : PySem.W.keepIn X.K (.ref f) = true) (hb : Binds X.K fd ps ds) (hd : Vals dvs ds) (hx : Passes CX X E)
  (ha : PA X (e :: es) t) (hdb : (x == ("__debug__" : Str)) = false := by decide) (he : starEach (e :: es) X.env = (false, eval e X.env) :: starEach es X.env := by rfl) (hpl : (backTo pos (starEach es X.env)).any (·.1) = false := by rfl) :
  PE X (.Call (.Name x p) (e :: es) [] pos) (tCall sp dvs E t) := by
 intro pins s σ H Q I h
 refine wpAny_Call_Name_kw (ld_glob I hg hm ?_ hdb)
 refine PySem.W.callWith_K (h₀ := X.base) I.ok.mod.kin hk (thn (ha pos pins s σ H _ I h) fun us s1 ⟨vs,H1,I1,r,q⟩ => ⟨I1.kIn,?_⟩) he hpl
 exact run_fn F hr hb hd hx I1 r q
end
section
variable {X : Cx} {CX : CXT} {k : Nat} {f C : Addr} {fd : FuncData} {ps ks : List Str} {sp : Sp} {E : XK} {x m : Str} {p pos apos kpos : Pos} {e o : Expr} {es : List Expr} {kws : List Keyword} {te ta : TE} {t tk : TA} {nm : Option Str}
variable {g : List Value → List Value → List Value} {gV : List V → List V → List V}
end
structure FnScope (N P : List Str) (sc : Scope) : Prop where
 kind : sc.kind = .function
 co : sc.isCoroutine = false
 gen : sc.isGenerator = false
 nd : N.Nodup
 pre : N.take P.length = P
 par : ∀ x ∈ P,sc.names.lookup x = some .local ∨ sc.names.lookup x = some .cell
 nofree : ∀ y ∈ sc.names,y.2 ≠ .free
theorem bindL_out {kindOf : Str → Option NameKind} {x : Str} : ∀ {binds : List (Str × Value)} {m : Str → Option Value},(∀ v,(x,v) ∉ binds) → bindL kindOf binds m x = m x
 | [],_,_ => rfl
 | (n,v) :: r,m,h => by
  unfold bindL
  rw [bindL_out fun w hw => h w (List.mem_cons_of_mem _ hw)]
  split
  ·have : x ≠ n := by rintro rfl; exact h v List.mem_cons_self
   simp [this]
  ·rfl
theorem bindC_out {kindOf : Str → Option NameKind} {x : Str} : ∀ {binds : List (Str × Value)} {m : Str → Option Value},(∀ v,(x,v) ∉ binds) → bindC kindOf binds m x = m x
 | [],_,_ => rfl
 | (n,v) :: r,m,h => by
  unfold bindC
  rw [bindC_out fun w hw => h w (List.mem_cons_of_mem _ hw)]
  split
  ·rfl
  ·have : x ≠ n := by rintro rfl; exact h v List.mem_cons_self
   simp [this]
theorem bindL_get {kindOf : Str → Option NameKind} {x : Str} {v : Value} : ∀ {P : List Str} {vs : List Value} {i : Nat} {m : Str → Option Value},P.Nodup → P[i]? = some x → vs[i]? = some v → kindOf x = some .local →
  bindL kindOf (P.zip vs) m x = some v
 | [],_,_,_,_,h,_,_ => by simp at h
 | _ :: _,[],_,_,_,_,h,_ => by simp at h
 | p :: P,w :: vs,0,m,nd,h1,h2,hk => by
  simp at h1 h2; subst h1; subst h2
  show bindL kindOf ((p,w) :: P.zip vs) m p = _
  unfold bindL
  rw [bindL_out fun v hv => (List.nodup_cons.mp nd).1 (List.of_mem_zip hv).1,if_pos hk]
  simp
 | p :: P,w :: vs,i + 1,m,nd,h1,h2,hk => by
  show bindL kindOf ((p,w) :: P.zip vs) m x = _
  unfold bindL
  exact bindL_get (i := i) (List.nodup_cons.mp nd).2 (by simpa using h1) (by simpa using h2) hk
theorem bindC_get {kindOf : Str → Option NameKind} {x : Str} {v : Value} : ∀ {P : List Str} {vs : List Value} {i : Nat} {m : Str → Option Value},P.Nodup → P[i]? = some x → vs[i]? = some v → kindOf x ≠ some .local →
  bindC kindOf (P.zip vs) m x = some v
 | [],_,_,_,_,h,_,_ => by simp at h
 | _ :: _,[],_,_,_,_,h,_ => by simp at h
 | p :: P,w :: vs,0,m,nd,h1,h2,hk => by
  simp at h1 h2; subst h1; subst h2
  show bindC kindOf ((p,w) :: P.zip vs) m p = _
  unfold bindC
  rw [bindC_out fun v hv => (List.nodup_cons.mp nd).1 (List.of_mem_zip hv).1,if_neg hk]
  simp
 | p :: P,w :: vs,i + 1,m,nd,h1,h2,hk => by
  show bindC kindOf ((p,w) :: P.zip vs) m x = _
  unfold bindC
  exact bindC_get (i := i) (List.nodup_cons.mp nd).2 (by simpa using h1) (by simpa using h2) hk
def start (N : List Str) (vs : List V) : St := vs.map some ++ List.replicate (N.length - vs.length) none
def cxOf (CX : CXT) (P : Program) (w : World) (K : PySem.W.Frag) (mg : Str → Option Value) (base : Heap) (N : List Str) (qual : Str) (scope : Scope) (f : Addr) (cd : Value) (A : Around) (outer : List Env) (s : Shared) (H : Hp) (E : XK) : Cx where
 prog := P
 w := w
 K := K
 mg := mg
 base := base
 A := A.deeper (envOfC qual scope s.heap.objs.size f cd)
 N := N
 s₀ := s
 H₀ := H
 env := envOfC qual scope s.heap.objs.size f cd
 outer := outer
 stack := envOfC qual scope s.heap.objs.size f cd :: outer
 ex := []
 calm := true
 fn := fun _ => true
 pn := []
 xe := fun e s' => wpAny (model P w) (A.deeper (envOfC qual scope s.heap.objs.size f cd)) (leaving (envOfC qual scope s.heap.objs.size f cd) e) (fun _ s'' => CX outer H s E e s'') (fun e' s'' => CX outer H s E e' s'') s'
theorem cell_has {sc : Scope} {n : Nat} {x : Str} (h : sc.names.lookup x = some .cell) : ∃ c,(cellsFrom n sc.names []).lookup x = some c := by
 have q := PySem.W.cellsFrom_some sc.names n [] (.inl h)
 exact Option.isSome_iff_exists.mp q
theorem inv_start {CX : CXT} {P : Program} {w : World} {K : PySem.W.Frag} {mg : Str → Option Value} {base : Heap} {N ps : List Str} {qual : Str} {scope : Scope} {f : Addr} {cd : Value} {A : Around} {outer : List Env} {s s1 : Shared} {H : Hp} {E : XK} {us : List Value} {vs : List V}
  (S : FnScope N ps scope) (hd : A.handled = none) (e0 : Env0 P w K mg base A outer s H) (hl : vs.length = ps.length) (r : Vals vs us)
  (x : InCallC s s.heap.objs.size (bindL (envOfC qual scope s.heap.objs.size f cd).kindOf (ps.zip us) fun _ => none) (cellsFrom (s.heap.objs.size + 1) scope.names []) (bindC (envOfC qual scope s.heap.objs.size f cd).kindOf (ps.zip us) fun _ => none) s1) :
  Inv (cxOf CX P w K mg base N qual scope f cd A outer s H E) [] (start N vs) H s1 := by
 have hpl : ps.length ≤ N.length := by have := congrArg List.length S.pre; rw [List.length_take] at this; omega
 obtain ⟨h1,tk,rfl,hk⟩ := x.done
 have noA : ∀ b : Addr,b ∉ (cxOf CX P w K mg base N qual scope f cd A outer s H E).ex := fun b z => absurd (show b ∈ ([] : List Addr) from z) (by simp)
 refine ⟨⟨e0.mod,S.kind,rfl,rfl,Nat.le_refl _,fun y z c h1 h2 => ?_,fun y hy => ?_,fun y c _ h => ?_,fun _ => hd,Around.frames_deeper e0.frames,.inr ⟨rfl,rfl⟩,fun b z => absurd z (noA b),e0.bs,e0.bsz,fun b _ _ => noA b,fun b z => absurd z (noA b),e0.funs,e0.frf⟩,
  rfl,e0.bare,Un.kept hk,⟨_,x.toInCall.ns,fun i y v h1 h2 h3 => ?_⟩,fun y c h => ⟨_,x.cell y c h⟩,e0.hok.fresh (Nat.le_refl _),fun y c h => ?_,fun p hp => absurd (show p ∈ ([] : List (Addr × Obj)) from hp) (by simp),e0.hok.kept hk,?_⟩
 ·exact name_of_addr x.apart (PySem.mem_of_lookup h1) (PySem.mem_of_lookup h2)
 ·have hy : scope.names.lookup y = some .cell ∨ scope.names.lookup y = some .free := hy
  rcases hy with hy | hy
  ·exact cell_has hy
  ·exact absurd rfl (S.nofree _ (PySem.mem_of_lookup hy))
 ·exact Nat.le_of_lt (x.above y c (PySem.mem_of_lookup h))
 ·have hi : i < vs.length := by
   unfold start at h2
   by_cases hi : i < vs.length
   ·exact hi
   ·rw [List.getElem?_append_right (by simpa using hi)] at h2
    rw [List.getElem?_replicate] at h2
    split at h2 <;> cases h2
  have ha : vs[i]? = some v := by
   unfold start at h2
   rw [List.getElem?_append_left (by simpa using hi),List.getElem?_map] at h2
   cases e : vs[i]? with
   | none => rw [e] at h2; cases h2
   | some a => rw [e] at h2; cases h2; rfl
  obtain ⟨u,hu,rv⟩ := r.get ha
  have hp : ps[i]? = some y := by
   rw [← S.pre,List.getElem?_take_of_lt (by omega)]; exact h1
  have ndP : ps.Nodup := by rw [← S.pre]; exact S.nd.sublist (List.take_sublist _ _)
  refine ⟨u,rv,?_⟩
  rcases S.par y (List.mem_of_getElem? hp) with k | k
  ·exact .inl ⟨k,bindL_get ndP hp hu k⟩
  ·obtain ⟨c,e⟩ := cell_has (n := s.heap.objs.size + 1) k
   refine .inr ⟨.inl k,c,e,?_⟩
   have q := x.cell y c e
   rw [bindC_get ndP hp hu (by show scope.names.lookup y ≠ _; rw [k]; decide)] at q
   exact q
 ·exact e0.hok.fresh (Nat.le_of_lt (x.above y c (PySem.mem_of_lookup h)))
 ·unfold start
  show _ = N.length
  rw [List.length_append,List.length_map,List.length_replicate]
  omega
theorem fn_of {CX : CXT} {P : Program} {w : World} {K : PySem.W.Frag} {mg : Str → Option Value} {base : Heap} {k : Nat} {f : Addr} {name qual : Str} {params : Arguments} {body : List Stmt} {scope : Scope} {dV kV doc pm cdv ct oc : Value} {an od : Option Addr}
  {osl : Array (Option Value)} {N ps : List Str} {sp : Sp} (lk : K.lookup f = some ⟨oc,od,.func (PySem.W.fnOf name qual params body scope dV kV doc pm an cdv ct),osl⟩) (hcd : PySem.W.codeIn K cdv qual = true) (S : FnScope N ps scope)
  (len : ∀ vs H Q E,sp vs H Q E → vs.length = ps.length)
  (hbody : ∀ (A : Around) (outer : List Env) (s : Shared) (H : Hp) (vs : List V) (Q : VK) (E : XK),Room k (A.deeper (envOfC qual scope s.heap.objs.size f cdv)) → sp vs H Q E →
   ∃ t,PSs (cxOf CX P w K mg base N qual scope f cdv A outer s H E) body t ∧ t { nx := fun _ H' => Q .non H',rt := Q } (start N vs) H) :
  FnOk P w K mg base CX (k + 1) f (PySem.W.fnOf name qual params body scope dV kV doc pm an cdv ct) ps sp := by
 refine ⟨len,fun A outer s H args us vs Q E hr e0 hb r hsp => ?_⟩
 have hl := len _ _ _ _ hsp
 have KX : K.In s.heap := e0.mod.kin.keeps fun b o e => (e0.bs b o e).1
 have lim : s.heap.NoLimit := e0.mod.nolimit.keeps fun b o e => (e0.bs b o e).1
 have hkind : ∀ y ∈ ps.zip us,scope.names.lookup y.1 = some .local ∨ (scope.names.lookup y.1 = some .cell ∧ ((cellsFrom (s.heap.objs.size + 1) scope.names []).lookup y.1).isSome = true) := fun ⟨n,v⟩ hy => by
  rcases S.par n (List.of_mem_zip hy).1 with q | q
  ·exact .inl q
  ·exact .inr ⟨q,PySem.W.cellsFrom_some _ _ _ (.inl q)⟩
 refine codeAny_call_function hr.depth (KX _ _ lk) rfl S.co S.gen rfl (PySem.W.codeRec_of KX hcd) (hb _ _ _ _ ?_)
 refine wpAny_newFunctionEnv_cells S.kind hkind fun env he s1 x => ?_
 subst he
 refine ⟨lim.keeps x.toInCall.keep,codeAny_func ?_⟩
 obtain ⟨t,ht,hq⟩ := hbody A outer s H vs Q E (hr.deeper _) hsp
 have I : Inv (cxOf CX P w K mg base N qual scope f cdv A outer s H E) [] (start N vs) H s1 := inv_start S hr.hd e0 hl r x
 refine wpAny_mono (ht [] s1 (start N vs) H _ I hq) (fun fl s' hs => ?_) fun e s' hs => hs
 have fin : ∀ {σ' : St} {H' : Hp} {v : V} {u : Value},Inv (cxOf CX P w K mg base N qual scope f cdv A outer s H E) [] σ' H' s' → RelV v u → Q v H' → CE outer P w H s Q u s' :=
  fun {σ' H' v u} J rv q => ⟨v,H',J.os,J.bare,J.base,J.hok,rv,q⟩
 cases fl with
 | ret u =>
  obtain ⟨v,σ',H',J,rv,q⟩ := hs
  exact fin J rv q
 | next =>
  obtain ⟨σ',H',J,q⟩ := hs
  exact fin (v := V.non) (u := Value.none) J rfl q
 | brk =>
  obtain ⟨_,_,_,q⟩ := hs
  exact False.elim q
 | cont =>
  obtain ⟨_,_,_,q⟩ := hs
  exact False.elim q
section
variable {X : Cx} {x : Str} {p pos : Pos} {e : Expr} {es : List Expr} {t : TA} {id T : String} {r : List V → Hp → VK → Prop}
def tCB (r : List V → Hp → VK → Prop) (t : TA) : TE := fun σ H Q => t σ H fun vs H1 => r vs H1 Q
theorem pe_callB (hc : CallR X (.builtin id) r) (hg : Gl X x) (hm : X.mg x = none) (hv : bootBuiltins x = some (.builtin id)) (ha : PA X (e :: es) t) (hn : x ≠ "__name__" := by decide) (hdb : (x == ("__debug__" : Str)) = false := by decide)
  (he : starEach (e :: es) X.env = (false,eval e X.env) :: starEach es X.env := by rfl) (hpl : (backTo pos (starEach es X.env)).any (·.1) = false := by rfl) : PE X (.Call (.Name x p) (e :: es) [] pos) (tCB r t) := by
 intro pins s σ H Q I h
 refine wpAny_Call_Name_kw (ld_blt I hg hm hv ?_ hn hdb)
 exact PyProof.Rows.callWith_builtin1 (thn (ha pos pins s σ H _ I h) fun us s1 ⟨vs,H1,I1,r1,q1⟩ => hc pins s1 σ H1 vs us Q I1 r1 q1) he hpl
theorem pe_callTy (hc : CallR X (.type T) r) (hg : Gl X x) (hm : X.mg x = none) (hv : bootBuiltins x = some (.type T)) (ha : PA X (e :: es) t) (hn : x ≠ "__name__" := by decide) (hdb : (x == ("__debug__" : Str)) = false := by decide)
  (he : starEach (e :: es) X.env = (false,eval e X.env) :: starEach es X.env := by rfl) (hpl : (backTo pos (starEach es X.env)).any (·.1) = false := by rfl) : PE X (.Call (.Name x p) (e :: es) [] pos) (tCB r t) := by
 intro pins s σ H Q I h
 refine wpAny_Call_Name_kw (ld_blt I hg hm hv ?_ hn hdb)
 exact PyProof.Rows.callWith_type1 (thn (ha pos pins s σ H _ I h) fun us s1 ⟨vs,H1,I1,r1,q1⟩ => hc pins s1 σ H1 vs us Q I1 r1 q1) he hpl
end
end L2
namespace HT
open PySem PyProof.Rows
section
open PySem.SeqAt
open PySem.AutoSeq1 (wpAny_loadPart')
open PySem.MeetsSeq PySem.MeetsSeq2 PySem.MeetsSeq3
end
section
variable {prog : Program} {w : World} {A : Around} {E : Value → Shared → Prop} {s : Shared}
def sIx (n d : Nat) : Option Int → Nat
 | none => d
 | some v => if v < 0 then (v + (n : Int)).toNat else min v.toNat n
end
end HT
namespace L2
open PySem PySem.Spec PyProof.Rows
abbrev TO := St → Hp → (Option Int → Hp → Prop) → Prop
def PO (X : Cx) (e : Option Expr) (t : TO) : Prop :=
 ∀ (pins : List (Addr × Obj)) (s : Shared) (σ : St) (H : Hp) (Q : Option Int → Hp → Prop),Inv X pins σ H s → t σ H Q →
  wpAny (model X.prog X.w) X.A (evalPart e X.env) (fun u s' => ∃ o H',Inv X pins σ H' s' ∧ IsPart u o ∧ Q o H') X.xe s
def tNoPart : TO := fun _ H Q => Q none H
def tPart (t : TE) : TO := fun σ H Q => t σ H fun x H1 => ∃ i,x = .int i ∧ Q (some i) H1
section
variable {X : Cx} {e : Expr} {te : TE} {lo hi : Option Expr} {tl th : TO} {pos p2 : Pos}
theorem po_none : PO X none tNoPart := by
 intro pins s σ H Q I h
 rw [evalPart_none]
 exact wpAny_pure ⟨none,H,I,.none,h⟩
theorem po_some (h : PE X e te) : PO X (some e) (tPart te) := by
 intro pins s σ H Q I hw
 rw [evalPart_some]
 refine thn (h pins s σ H _ I hw) fun u s1 ⟨x,H1,I1,r1,q1⟩ => ?_
 obtain ⟨i,rfl,q⟩ := q1
 obtain ⟨t,rfl⟩ := r1
 exact ⟨some i,H1,I1,.int i t,q⟩
def SlR (X : Cx) (r : V → Option Int → Option Int → Hp → VK → Prop) : Prop :=
 ∀ (pins : List (Addr × Obj)) (s : Shared) (σ : St) (H : Hp) (x : V) (v vl vu : Value) (lo hi : Option Int) (sl : Addr) (Q : VK),Inv X pins σ H s → RelV x v → s.heap.IsSliceOf sl vl vu .none → IsPart vl lo → IsPart vu hi → r x lo hi H Q →
  ∃ T id, typeLookup (.type T) "__getitem__" = pure (some (.builtin id)) ∧ s.TypeIs v T ∧ wpAny (model X.prog X.w) X.A (getItem v (.ref sl)) (EP X pins σ Q) X.xe s
def tSl (r : V → Option Int → Option Int → Hp → VK → Prop) (te : TE) (tl th : TO) : TE := fun σ H Q => te σ H fun x H1 => tl σ H1 fun l H2 => th σ H2 fun u H3 => r x l u H3 Q
theorem pe_slice {r : V → Option Int → Option Int → Hp → VK → Prop} (hr : SlR X r) (he : PE X e te) (hl : PO X lo tl) (hu : PO X hi th) : PE X (.Subscript e (.Slice lo hi none p2) pos) (tSl r te tl th) := by
 intro pins s σ H Q I h
 refine Subscript_ (thn (he pins s σ H _ I h) fun v s1 ⟨x,H1,I1,r1,q1⟩ => ?_)
 refine wpAny_Slice (thn (hl pins s1 σ H1 _ I1 q1) fun vl s2 ⟨l,H2,I2,pl,q2⟩ => thn (hu pins s2 σ H2 _ I2 q2) fun vu s3 ⟨u,H3,I3,pu,q3⟩ => ?_)
 rw [evalPart_none]
 refine wpAny_pure ?_
 have I4 : Inv X pins σ H3 { s3 with heap := s3.heap.push { cls := .type "slice", data := .fields #[vl, vu, .none] } } := I3.kept (t' := s3.toks) fun b ob q => Heap.get?_push_of_some _ q
 obtain ⟨T, id, hT, ht, hg⟩ := hr pins { s3 with heap := s3.heap.push { cls := .type "slice", data := .fields #[vl, vu, .none] } } σ H3 x v vl vu l u s3.heap.objs.size Q I4 r1 (Heap.IsSliceOf.new ..) pl pu q3
 show wpAny (model X.prog X.w) X.A (subscriptTail e (.Slice lo hi none p2) v (.ref s3.heap.objs.size)) (EP X pins σ Q) X.xe { s3 with heap := s3.heap.push { cls := .type "slice", data := .fields #[vl, vu, .none] } }
 exact tail_any (ops := [.ref s3.heap.objs.size,v]) ht hT hg (by with_unfolding_all rfl)
def cutV (xs : List V) (lo hi : Option Int) : List V := (xs.drop (HT.sIx xs.length 0 lo)).take (HT.sIx xs.length xs.length hi - HT.sIx xs.length 0 lo)
theorem cutV_length (xs : List V) (lo hi : Option Int) : (cutV xs lo hi).length ≤ xs.length := by
 unfold cutV
 rw [List.length_take,List.length_drop]
 omega
end
def ixN (n : Nat) (i : Int) : Option Nat := if 0 ≤ i then (if i < n then some i.toNat else none) else if -(n : Int) ≤ i then some (i + n).toNat else none
def atI {α : Type} (xs : List α) (i : Int) : Option α := (ixN xs.length i).bind fun j => xs[j]?
theorem ixN_seq {n : Nat} {i : Int} {j : Nat} (h : ixN n i = some j) : seqIndex? i n = some j ∧ j < n ∧ -(n : Int) ≤ i ∧ i < n := by
 unfold ixN at h
 by_cases h0 : 0 ≤ i
 ·rw [if_pos h0] at h
  by_cases h1 : i < n
  ·rw [if_pos h1] at h
   have e : i.toNat = j := Option.some.inj h
   exact ⟨by rw [seqIndex_of h0 h1,e],by omega,by omega,h1⟩
  ·rw [if_neg h1] at h; cases h
 ·rw [if_neg h0] at h
  by_cases h1 : -(n : Int) ≤ i
  ·rw [if_pos h1] at h
   have e : (i + n).toNat = j := Option.some.inj h
   exact ⟨by rw [seqIndex_neg (by omega) h1,e],by omega,h1,by omega⟩
  ·rw [if_neg h1] at h; cases h
theorem atI_get {α : Type} {xs : List α} {i : Int} {v : α} (h : atI xs i = some v) : ∃ j,seqIndex? i xs.length = some j ∧ xs[j]? = some v ∧ j < xs.length ∧ -(xs.length : Int) ≤ i ∧ i < xs.length := by
 unfold atI at h
 cases e : ixN xs.length i with
 | none => rw [e] at h; cases h
 | some j =>
  rw [e] at h
  obtain ⟨h1,h2,h3,h4⟩ := ixN_seq e
  exact ⟨j,h1,h,h2,h3,h4⟩
def PlainIx (b : Expr) : Prop := ∀ o i,subscripted b false o i = operate [o,i] (getItem o i)
def IxR (X : Cx) (r : R2) : Prop :=
 ∀ (value slice : Expr) (pins : List (Addr × Obj)) (s : Shared) (σ : St) (H : Hp) (x y : V) (v u : Value) (Q : VK),Inv X pins σ H s → RelV x v → RelV y u → r x y H Q →
  subscripted slice false v u = operate [v,u] (getItem v u) → wpAny (model X.prog X.w) X.A (subscriptTail value slice v u) (EP X pins σ Q) X.xe s
def MtR (X : Cx) (id : String) (r : V → List V → Hp → VK → Prop) : Prop :=
 ∀ (pins : List (Addr × Obj)) (s : Shared) (σ : St) (H : Hp) (x : V) (xs : List V) (v : Value) (us : List Value) (Q : VK),Inv X pins σ H s → RelV x v → Vals xs us → r x xs H Q →
  wpAny (model X.prog X.w) X.A (call (.builtin id) (v :: us)) (EP X pins σ Q) X.xe s
section
variable {X : Cx} {a b : Expr} {ta tb : TE} {pos : Pos}
theorem IxR.or {r r' : R2} (h : IxR X r) (h' : IxR X r') : IxR X (fun x y H Q => r x y H Q ∨ r' x y H Q) := by
 intro value slice pins s σ H x y v u Q I rx ry q hs
 rcases q with q | q
 ·exact h value slice pins s σ H x y v u Q I rx ry q hs
 ·exact h' value slice pins s σ H x y v u Q I rx ry q hs
theorem pe_ix {r : R2} (hr : IxR X r) (ha : PE X a ta) (hb : PE X b tb) (hs : PlainIx b) : PE X (.Subscript a b pos) (tOp r ta tb) := by
 intro pins s σ H Q I h
 exact Subscript_ (binT ha hb I h fun v u s2 x y H2 I2 rx ry q => hr a b pins s2 σ H2 x y v u Q I2 rx ry q (hs _ _))
def rIxL (K : PySem.W.Frag) : R2 := fun x y H Q => ∃ p xs i v,x = .ref p ∧ y = .int i ∧ SqL K H p xs ∧ atI xs i = some v ∧ Q v H
def rIxT (K : PySem.W.Frag) : R2 := fun x y H Q => ∃ p xs i v,x = .ref p ∧ y = .int i ∧ SqT K H p xs ∧ atI xs i = some v ∧ Q v H
theorem ix_list : IxR X (rIxL X.K) := by
 intro value slice pins s σ H x y v u Q I rx ry h hs
 obtain ⟨p,xs,i,z,rfl,rfl,hq,he,q⟩ := h
 cases rx
 obtain ⟨t,rfl⟩ := ry
 obtain ⟨its,r,pl,hz⟩ := I.list hq
 obtain ⟨j,h1,h2,h3,h4,h5⟩ := atI_get he
 obtain ⟨w,ew,rw'⟩ := r.get h2
 have hl := r.length
 have hn := line63
 have fin : EP X pins σ Q w s := ⟨z,H,I,rw',q⟩
 by_cases h0 : 0 ≤ i
 ·have hj : i.toNat = j := by
   rw [seqIndex_of h0 h5] at h1
   exact Option.some.inj h1
  exact item_listR pl.isList h0 (by omega) (by rw [hj]; simpa using ew) fin hs
 ·have hj : (i + (its.toArray.size : Int)).toNat = j := by
   rw [seqIndex_neg (by omega) h4] at h1
   rw [List.size_toArray,← hl]
   exact Option.some.inj h1
  exact subscriptTail_builtinR (x := w) pl.isList.typeIs slot_list_getitem.lookup
   (wpAny_getItem_list_neg (Q := fun r s' => r = w ∧ EP X pins σ Q r s') pl.isList (by omega) (by rw [List.size_toArray] <;> omega) (by omega) (by rw [hj]; simpa using ew) ⟨rfl,fin⟩) hs
theorem ix_tup : IxR X (rIxT X.K) := by
 intro value slice pins s σ H x y v u Q I rx ry h hs
 obtain ⟨p,xs,i,z,rfl,rfl,hq,he,q⟩ := h
 cases rx
 obtain ⟨t,rfl⟩ := ry
 obtain ⟨its,r,pl,hz⟩ := I.tuple hq
 obtain ⟨j,h1,h2,h3,h4,h5⟩ := atI_get he
 obtain ⟨w,ew,rw'⟩ := r.get h2
 have hl := r.length
 have hn := line63
 have fin : EP X pins σ Q w s := ⟨z,H,I,rw',q⟩
 exact subscriptTail_builtinR (x := w) pl.typeIs slot_tuple_getitem.lookup
  (getItem_tuple (j := j) (Q := fun r s' => r = w ∧ EP X pins σ Q r s') pl (by omega) (by omega) (by rw [List.size_toArray,← hl]; exact h1) (by simpa using ew) ⟨rfl,fin⟩) hs
theorem mapSeq_set (its : List Value) (n j : Nat) (u : Value) : Obj.mapSeq (·.setIfInBounds j u) { cls := .type "list", data := .seq its.toArray n } = { cls := .type "list", data := .seq (its.set j u).toArray n } := by
 simp [Obj.mapSeq]
theorem Inv.lst {pins : List (Addr × Obj)} {σ : St} {H : Hp} {s : Shared} {p : Addr} {xs : List V} (I : Inv X pins σ H s) (h : H p = some (.lst xs)) :
  ∃ (its : List Value) (n : Nat), Vals xs its ∧ s.heap.get? p = some { cls := .type "list", data := .seq its.toArray n } ∧ xs.length ≤ sizeLine := by
 obtain ⟨z,its,n,r,e⟩ := I.hok p _ h
 exact ⟨its,n,r,e,z⟩
theorem Inv.lstUpd {pins : List (Addr × Obj)} {σ : St} {H : Hp} {s : Shared} {p : Addr} {xs ys : List V} {its its' : List Value} {n n' : Nat} {f : Obj → Obj} (I : Inv X pins σ H s) (h : H p = some (.lst xs))
  (ho : s.heap.get? p = some { cls := .type "list", data := .seq its.toArray n }) (hf : f { cls := .type "list", data := .seq its.toArray n } = { cls := .type "list", data := .seq its'.toArray n' }) (r : Vals ys its') (hz : ys.length ≤ sizeLine) (t : Nat) :
  Inv X pins σ (upd H p (.lst ys)) { s with heap := s.heap.update p f,toks := t } := by
 have e : (s.heap.update p f).get? p = some { cls := .type "list", data := .seq its'.toArray n' } := by
  rw [Heap.get?_update_self f ho (by rw [hf] <;> rfl),hf]
 refine I.write (x := p) (e := p) (by rw [h]; trivial) (.inl rfl) (fun b u hb q => (Heap.get?_update_other _ _ (Ne.symm hb)).trans q) ⟨_,e⟩ ?_
 exact ⟨hz,its',n',r,e⟩
def rSetL : V → V → V → Hp → (Hp → Prop) → Prop := fun o i v H Q => ∃ p xs k j,o = .ref p ∧ i = .int k ∧ H p = some (.lst xs) ∧ ixN xs.length k = some j ∧ Q (upd H p (.lst (xs.set j v)))
theorem set_list : PSet X rSetL := by
 intro pins s σ H o i v ov iv u Q I ro ri rv h
 obtain ⟨p,xs,k,j,rfl,rfl,hp,hj,q⟩ := h
 cases ro
 obtain ⟨t,rfl⟩ := ri
 obtain ⟨its,n,r,ho,hz⟩ := I.lst hp
 obtain ⟨h1,h2,h3,h4⟩ := ixN_seq hj
 have hl := r.length
 have hn := line63
 have I' : Inv X pins σ (upd H p (.lst (xs.set j v))) { s with heap := s.heap.update p (Obj.mapSeq (·.setIfInBounds j u)) } :=
  I.lstUpd hp ho (mapSeq_set its n j u) (r.set rv j) (by rw [List.length_set]; exact hz) s.toks
 by_cases h0 : 0 ≤ k
 ·have hk : k.toNat = j := by
   rw [seqIndex_of h0 h4] at h1
   exact Option.some.inj h1
  exact PySem.W.ki_setAt ho h0 (by omega) (by rw [List.size_toArray,← hl]; exact h4) (by rw [hk]; exact ⟨_,I',q⟩)
 ·have hk : (k + (its.toArray.size : Int)).toNat = j := by
   rw [seqIndex_neg (by omega) h3] at h1
   rw [List.size_toArray,← hl]
   exact Option.some.inj h1
  exact PySem.W.ki_setBack ho (by omega) (by rw [List.size_toArray,← hl]; exact h3) (by omega) (by rw [hk]; exact ⟨_,I',q⟩)
theorem slice_bounds (lo hi : Option Int) (n : Nat) : (sliceBounds lo hi none n).1 = ((HT.sIx n 0 lo : Nat) : Int) ∧ (sliceBounds lo hi none n).2.1 = ((HT.sIx n n hi : Nat) : Int) ∧ (sliceBounds lo hi none n).2.2 = 1 := by
 refine ⟨?_,?_,rfl⟩
 ·cases lo with
  | none => simp [sliceBounds,HT.sIx]
  | some i =>
   simp only [sliceBounds,HT.sIx,Option.getD_none,show (1 : Int) > 0 by decide,if_true]
   by_cases h : i < 0
   ·simp only [h,if_true] <;> omega
   ·simp only [h,if_false] <;> omega
 ·cases hi with
  | none => simp [sliceBounds,HT.sIx]
  | some i =>
   simp only [sliceBounds,HT.sIx,Option.getD_none,show (1 : Int) > 0 by decide,if_true]
   by_cases h : i < 0
   ·simp only [h,if_true] <;> omega
   ·simp only [h,if_false] <;> omega
theorem slicePick_cut (its : List Value) (lo hi : Option Int) : slicePick its.toArray lo hi none = ((its.drop (HT.sIx its.length 0 lo)).take (HT.sIx its.length its.length hi - HT.sIx its.length 0 lo)).toArray := by
 obtain ⟨h1,h2,h3⟩ := slice_bounds lo hi its.toArray.size
 unfold slicePick
 rw [h1,h2,h3]
 simp only [sliceRange_one,pick_run,List.size_toArray] <;> rfl
def rSlL (K : PySem.W.Frag) : V → Option Int → Option Int → Hp → VK → Prop := fun x lo hi H Q => ∃ a xs,x = .ref a ∧ SqL K H a xs ∧ ∀ p,H p = none → Q (.ref p) (upd H p (.lst (cutV xs lo hi)))
theorem sl_list : SlR X (rSlL X.K) := by
 intro pins s σ H x v vl vu lo hi sl Q I rx hs pl pu h
 obtain ⟨a,xs,rfl,hx,q⟩ := h
 cases rx
 obtain ⟨its,r,ht,hz⟩ := I.list hx
 have hlen := r.length
 refine ⟨"list", _, slot_list_getitem.lookup, ht.isList.typeIs, ?_⟩
 refine wpAny_getItem_list_slice ht.isList hs pl pu .none (by simp) ?_ (by rw [List.size_toArray] <;> omega)
 rw [slicePick_cut,← hlen]
 refine ⟨.ref s.heap.objs.size,_,I.laid (t' := s.toks) (o := .lst (cutV xs lo hi)) (fun b ob q => Heap.get?_push_of_some _ q) (Nat.le_refl _) ?_,rfl,q _ (I.hok.fresh (Nat.le_refl _))⟩
 exact ⟨Nat.le_trans (cutV_length xs lo hi) hz,_,0,(r.drop (HT.sIx xs.length 0 lo)).take (HT.sIx xs.length xs.length hi - HT.sIx xs.length 0 lo),Heap.get?_push_size _ rfl⟩
theorem call_len_seq : CallR X (.builtin "len") (fun xs H Q => ∃ p ys, xs = [.ref p] ∧ (SqL X.K H p ys ∨ SqT X.K H p ys) ∧ Q (.int ys.length) H) := by
 intro pins s σ H xs us Q I r h
 obtain ⟨p,ys,rfl,hq,q⟩ := h
 obtain ⟨u,rfl,rx⟩ := vals1 r
 cases rx
 have hn := line63
 rcases hq with hq | hq
 ·obtain ⟨its,r',pl,hz⟩ := I.list hq
  have hlen := r'.length
  exact Calls.call_len_list pl.isList (by simp only [List.size_toArray] <;> omega) ⟨.int ys.length,H,I.tok _,⟨s.toks + 1,by rw [List.size_toArray,hlen]⟩,q⟩
 ·obtain ⟨its,r',pl,hz⟩ := I.tuple hq
  have hlen := r'.length
  exact len_tuple pl (by simp only [List.size_toArray] <;> omega) ⟨.int ys.length,H,I.tok _,⟨s.toks + 1,by rw [List.size_toArray,hlen]⟩,q⟩
theorem call_list_of : CallR X (.type "list") (fun xs H Q => ∃ p ys, xs = [.ref p] ∧ (SqL X.K H p ys ∨ SqT X.K H p ys) ∧ ∀ l, H l = none → Q (.ref l) (upd H l (.lst ys))) := by
 intro pins s σ H xs us Q I r h
 obtain ⟨p,ys,rfl,hq,q⟩ := h
 obtain ⟨u,rfl,rx⟩ := vals1 r
 cases rx
 have fin : ∀ (its : List Value),Vals ys its → ys.length ≤ sizeLine → ∀ (h' : Heap) (c' : Nat),(∀ b o',s.heap.get? b = some o' → h'.get? b = some o') →
   h'.get? s.heap.objs.size = some { cls := .type "list", dict := none, data := .seq its.toArray c', slots := #[] } → EP X pins σ Q (.ref s.heap.objs.size) { s with heap := h' } := fun its r' hz h' c' kp e =>
  ⟨.ref s.heap.objs.size,_,I.laid (t' := s.toks) kp (Nat.le_refl _) (show ObjOk X.prog X.w _ h' _ (.lst ys) from ⟨hz,its,c',r',e⟩),rfl,q _ (I.hok.fresh (Nat.le_refl _))⟩
 rcases hq with hq | hq
 ·obtain ⟨its,r',pl,hz⟩ := I.list hq
  have hlen := r'.length
  obtain ⟨o,ho,hc,n,hd⟩ := pl.isList
  exact call_list_seq p (.inl rfl) ho hc hd (fun h' c' kp e => fin its r' hz h' c' kp e) (by simp only [List.size_toArray] <;> omega)
 ·obtain ⟨its,r',pl,hz⟩ := I.tuple hq
  have hlen := r'.length
  obtain ⟨o,ho,hc,n,hd⟩ := pl
  exact call_list_seq p (.inr rfl) ho hc hd (fun h' c' kp e => fin its r' hz h' c' kp e) (by simp only [List.size_toArray] <;> omega)
theorem call_tuple_of : CallR X (.type "tuple") (fun xs H Q => ∃ p ys, xs = [.ref p] ∧ ((SqL X.K H p ys ∧ ∀ l, H l = none → Q (.ref l) (upd H l (.tup ys))) ∨ (SqT X.K H p ys ∧ Q (.ref p) H))) := by
 intro pins s σ H xs us Q I r h
 obtain ⟨p,ys,rfl,h⟩ := h
 obtain ⟨u,rfl,rx⟩ := vals1 r
 cases rx
 rcases h with ⟨hq,q⟩ | ⟨hq,q⟩
 ·obtain ⟨its,r',pl,hz⟩ := I.list hq
  have hlen := r'.length
  refine call_tuple_list pl.isList (fun h' kp => ?_) (by simp only [List.size_toArray] <;> omega)
  have I1 : Inv X pins σ H { s with heap := h' } := I.kept (t' := s.toks) kp
  have I2 : Inv X pins σ (upd H h'.objs.size (.tup ys)) { s with heap := h'.push { cls := .type "tuple", data := .seq its.toArray } } :=
   I1.laid (t' := s.toks) (fun b o e => Heap.get?_push_of_some _ e) (Nat.le_refl _) (show ObjOk X.prog X.w _ _ _ (.tup ys) from ⟨hz,its,r',IsTup.new _ _⟩)
  exact ⟨.ref h'.objs.size,_,I2,rfl,q _ (I1.hok.fresh (Nat.le_refl _))⟩
 ·obtain ⟨its,r',pl,hz⟩ := I.tuple hq
  exact call_tuple_same pl ⟨.ref p,H,I,rfl,q⟩
def tyV (K : PySem.W.Frag) (T : String) (x : V) (H : Hp) : Prop := match x with
 | .str _ => T = "str"
 | .int _ => T = "int"
 | .ref p => (T = "list" ∧ ∃ xs, SqL K H p xs) ∨ (T = "tuple" ∧ ∃ o, K.lookup p = some o ∧ o.cls = .type "tuple" ∧ o.dict = none) ∨
   (T = "dict" ∧ ((∃ kvs, H p = some (.dK kvs)) ∨ ∃ kvs, H p = some (.dT kvs))) ∨ (T = "set" ∧ ∃ S n, H p = some (.set S n))
 | _ => False
theorem tyV_is {pins : List (Addr × Obj)} {σ : St} {H : Hp} {s : Shared} {T : String} {x : V} {v : Value} (I : Inv X pins σ H s) (r : RelV x v) (ty : tyV X.K T x H) :
  s.TypeIs v T ∧ ∀ a,v = .ref a → ∃ ob,s.heap.get? a = some ob ∧ ob.dict = none := by
 cases x with
 | str z =>
  obtain ⟨t,rfl⟩ := r
  cases (show T = "str" from ty)
  exact ⟨typeIs_str s z t,fun _ e => nomatch e⟩
 | int i =>
  obtain ⟨t,rfl⟩ := r
  cases (show T = "int" from ty)
  exact ⟨typeIs_int s i t,fun _ e => nomatch e⟩
 | ref p =>
  cases r
  rcases ty with ⟨rfl,xs,hq⟩ | ⟨rfl,o,hk,hc,hd⟩ | ⟨rfl,hk⟩ | ⟨rfl,S,n,hk⟩
  ·obtain ⟨its,_,pl,_⟩ := I.list hq
   refine ⟨pl.isList.typeIs,fun a e => ?_⟩
   cases e
   obtain ⟨o,n,e,c,hd,_⟩ := pl
   exact ⟨o,e,hd⟩
  ·refine ⟨⟨o,I.kIn p o hk,hc⟩,fun a e => ?_⟩
   cases e
   exact ⟨o,I.kIn _ o hk,hd⟩
  ·have z : ∃ o,s.heap.get? p = some o ∧ o.ExactDict := by
    rcases hk with ⟨kvs,hk⟩ | ⟨kvs,hk⟩
    ·obtain ⟨_,_,_,_,o,_,_,e,ex,_⟩ := I.hok p _ hk
     exact ⟨o,e,ex⟩
    ·obtain ⟨_,_,_,_,o,_,_,e,ex,_⟩ := I.hok p _ hk
     exact ⟨o,e,ex⟩
   obtain ⟨o,e,ex⟩ := z
   refine ⟨⟨o,e,ex.1⟩,fun a e2 => ?_⟩
   cases e2
   exact ⟨o,e,ex.2.1⟩
  ·obtain ⟨o,_,_,_,e,ex,_⟩ := I.hok p _ hk
   refine ⟨⟨o,e,ex.1⟩,fun a e2 => ?_⟩
   cases e2
   exact ⟨o,e,ex.2.1⟩
 | _ => exact False.elim ty
def tBM0 (K : PySem.W.Frag) (T : String) (r : V → List V → Hp → VK → Prop) (to : TE) : TE := fun σ H Q => to σ H fun x H1 => tyV K T x H1 ∧ r x [] H1 Q
def tBM (K : PySem.W.Frag) (T : String) (r : V → List V → Hp → VK → Prop) (to : TE) (t : TA) : TE := fun σ H Q => to σ H fun x H1 => tyV K T x H1 ∧ t σ H1 fun xs H2 => r x xs H2 Q
variable {o e : Expr} {es : List Expr} {to : TE} {t : TA} {name : Str} {apos cpos : Pos} {T id : String} {r : V → List V → Hp → VK → Prop}
theorem pe_bm0 (pa : PlainAttrs T) (slot : Slot T name id) (hty : typeOf (.builtin id) = pure (.type "method_descriptor")) (hm : MtR X id r) (ho : PE X o to)
  (hbase : attributeBase o name X.env (eval o X.env) = eval o X.env := by rfl) (hline : (apos.endLine == cpos.line) = true := by rfl) : PE X (.Call (.Attribute o name apos) [] [] cpos) (tBM0 X.K T r to) := by
 intro pins s σ H Q I h
 refine wpAny_Call_method0_late hbase hline (thn (ho pins s σ H _ I h) fun v s1 ⟨x,H1,I1,r1,ty,q1⟩ => ?_)
 obtain ⟨h1,h2⟩ := tyV_is I1 r1 ty
 exact ⟨T,id,pa,slot,hty,h1,h2,Calls.callWith_builtin rfl (PySem.evalArgs_none (hm pins s1 σ H1 x [] v [] Q I1 r1 .nil q1))⟩
theorem pe_bm (pa : PlainAttrs T) (slot : Slot T name id) (hty : typeOf (.builtin id) = pure (.type "method_descriptor")) (hm : MtR X id r) (ho : PE X o to) (ha : PA X (e :: es) t)
  (hbase : attributeBase o name X.env (eval o X.env) = eval o X.env := by rfl)
  (hfew : ((backTo cpos (starEach (e :: es) X.env)).all (fun x => !x.1) && (backToKw cpos (keywordEach [] X.env)).all (fun x => x.1.isSome)
   && decide ((e :: es).length + ([] : List Keyword).length + (if ([] : List Keyword).isEmpty then 0 else 1) < 30)) = true := by rfl)
  (hline : (apos.endLine == cpos.line) = true := by rfl) (hs : starEach (e :: es) X.env = (false,eval e X.env) :: starEach es X.env := by rfl) (hplain : (backTo cpos (starEach es X.env)).any (·.1) = false := by rfl) :
  PE X (.Call (.Attribute o name apos) (e :: es) [] cpos) (tBM X.K T r to t) := by
 intro pins s σ H Q I h
 refine wpAny_Call_method_late hbase hfew hline rfl (thn (ho pins s σ H _ I h) fun v s1 ⟨x,H1,I1,r1,ty,q1⟩ => ?_)
 obtain ⟨h1,h2⟩ := tyV_is I1 r1 ty
 refine ⟨T,id,pa,slot,hty,h1,h2,?_⟩
 have hA := ha cpos pins s1 σ H1 _ I1 q1
 rw [hs] at hA ⊢
 refine Calls.callWith_builtin (by show (false || (backTo cpos (starEach es X.env)).any (·.1)) = false; rw [hplain] <;> rfl) (Calls.evalArgs_plain ?_)
 exact thn hA fun us s2 ⟨vs,H2,I2,r2,q2⟩ => hm pins s2 σ H2 x vs v us Q I2 r1 r2 q2
end
def MtM (X : Cx) (id : String) (r : V → List V → Hp → VK → Prop) : Prop :=
 ∀ (pins : List (Addr × Obj)) (s : Shared) (σ : St) (H : Hp) (x : V) (xs : List V) (v : Value) (us : List Value) (Q : VK),Inv X pins σ H s → RelV x v → Vals xs us → r x xs H Q →
  wpAny (model X.prog X.w) X.A (call (.builtin id) (v :: us)) (EP X pins σ Q) X.xe s
theorem Vals.one : ∀ {x : V} {us : List Value},Vals [x] us → ∃ u,us = [u] ∧ RelV x u
 | _,_,.cons r .nil => ⟨_,rfl,r⟩
theorem Vals.zero : ∀ {us : List Value},Vals [] us → us = []
 | _,.nil => rfl
theorem Vals.dropLast {xs : List V} {us : List Value} (h : Vals xs us) : Vals xs.dropLast us.dropLast := by
 induction h with
 | nil => exact .nil
 | cons r t ih =>
  cases t with
  | nil => exact .nil
  | cons q t' => exact .cons r ih
theorem Vals.eraseIdx : ∀ {xs : List V} {us : List Value} (i : Nat),Vals xs us → Vals (xs.eraseIdx i) (us.eraseIdx i)
 | _,_,_,.nil => .nil
 | _,_,0,.cons _ t => t
 | _,_,i + 1,.cons r t => .cons r (Vals.eraseIdx i t)
theorem Vals.rep {xs : List V} {us : List Value} (h : Vals xs us) : ∀ k : Nat,Vals (List.replicate k xs).flatten (List.replicate k us).flatten
 | 0 => .nil
 | k + 1 => by
  rw [List.replicate_succ,List.replicate_succ,List.flatten_cons,List.flatten_cons]
  exact Vals.append h (Vals.rep h k)
theorem erase_last {α : Type} (l : List α) : l.eraseIdx (l.length - 1) = l.dropLast := by
 induction l with
 | nil => rfl
 | cons a r ih =>
  cases r with
  | nil => rfl
  | cons b r =>
   have e : (a :: b :: r).length - 1 = ((b :: r).length - 1) + 1 := by
    have h1 : (a :: b :: r).length = r.length + 2 := rfl
    have h2 : (b :: r).length = r.length + 1 := rfl
    omega
   rw [e,List.eraseIdx_cons_succ,ih]
   all_goals rfl
theorem len_erase {α : Type} : ∀ (l : List α) (i : Nat),(l.eraseIdx i).length ≤ l.length
 | [],_ => Nat.le_refl _
 | _ :: _,0 => Nat.le_succ _
 | _ :: r,i + 1 => Nat.succ_le_succ (len_erase r i)
theorem foldl_rep (its : List Value) : ∀ (k : Nat) (acc : List Value),
  List.foldl (fun x1 x2 => x1 ++ x2) acc.toArray (List.replicate k its.toArray) = (acc ++ (List.replicate k its).flatten).toArray
 | 0,acc => by simp
 | k + 1,acc => by
  have e : acc.toArray ++ its.toArray = (acc ++ its).toArray := by simp
  have e2 : (acc ++ its) ++ (List.replicate k its).flatten = acc ++ (List.replicate (k + 1) its).flatten := by
   rw [List.replicate_succ,List.flatten_cons,List.append_assoc]
  rw [← e2,← foldl_rep its k (acc ++ its),← e,List.replicate_succ,List.foldl_cons]
section
variable {X : Cx} {pins : List (Addr × Obj)} {σ : St} {H : Hp} {s : Shared} {l b : Addr} {xs ys zs : List V}
theorem Inv.lset {its its' : List Value} {n : Nat} {f : Array Value → Array Value} {t' : Nat} (I : Inv X pins σ H s) (hH : H l = some (.lst xs))
  (e : s.heap.get? l = some { cls := .type "list", data := .seq its.toArray n }) (hf : f its.toArray = its'.toArray) (hv : Vals ys its') (hz : ys.length ≤ sizeLine) :
  Inv X pins σ (upd H l (.lst ys)) { s with heap := s.heap.update l (Obj.mapSeq f),toks := t' } := by
 have q := PySem.IsL.update e f
 rw [hf] at q
 refine I.write (x := l) (e := l) (by rw [hH]; exact trivial) (.inl rfl) (fun b' u hb hu => (Heap.get?_update_other s.heap (Obj.mapSeq f) (Ne.symm hb)).trans hu) ⟨_,q⟩ ?_
 exact ⟨hz,its',_,hv,q⟩
theorem Inv.lnew {its : List Value} {t' : Nat} (I : Inv X pins σ H s) (hv : Vals ys its) (hz : ys.length ≤ sizeLine) :
  Inv X pins σ (upd H s.heap.objs.size (.lst ys)) { s with heap := s.heap.push { cls := .type "list", data := .seq its.toArray }, toks := t' } :=
 I.laid (fun _ _ q => Heap.get?_push_of_some _ q) (Nat.le_refl _) ⟨hz,its,0,hv,Heap.get?_push_size _ rfl⟩
theorem Inv.fresh (I : Inv X pins σ H s) : H s.heap.objs.size = none := I.hok.fresh (Nat.le_refl _)
theorem Inv.lstM (I : Inv X pins σ H s) (hH : H l = some (.lst xs)) : xs.length ≤ sizeLine ∧ ∃ (its : List Value) (n : Nat), Vals xs its ∧ xs.length = its.length ∧ s.heap.get? l = some { cls := .type "list", data := .seq its.toArray n } := by
 obtain ⟨z,its,n,r,e⟩ := I.hok l _ hH
 exact ⟨z,its,n,r,r.length,e⟩
theorem notLongL {n : Nat} (h : n ≤ sizeLine) : Builtin.List.listTooLong n = false := by
 unfold Builtin.List.listTooLong
 exact decide_eq_false (by omega)
end
section
variable {X : Cx}
def rAppend : V → List V → Hp → VK → Prop := fun x vs H Q => ∃ l xs y,x = .ref l ∧ vs = [y] ∧ H l = some (.lst xs) ∧ xs.length < sizeLine ∧ Q .non (upd H l (.lst (xs ++ [y])))
theorem mt_append : MtM X "list.append" rAppend := by
 intro pins s σ H x vs v us Q I rx rv h
 obtain ⟨l,xs,y,rfl,rfl,hH,hz,q⟩ := h
 cases rx
 obtain ⟨u,rfl,ru⟩ := rv.one
 obtain ⟨z,its,n,r,hl,e⟩ := I.lstM hH
 refine call_meets F.slot_list_append ⟨_,e,rfl⟩ F.entry_list_append (F.args_list_append_2 _ _) (PySem.list_append l its.toArray n u (by rw [List.size_toArray]; omega)) ⟨e,?_⟩
 refine ⟨.non,_,I.lset (its' := its ++ [u]) hH e (by simp) (r.append (.cons ru .nil)) ?_,rfl,q⟩
 rw [List.length_append,List.length_singleton]
 omega
def rPop : V → List V → Hp → VK → Prop := fun x vs H Q => ∃ l xs y,x = .ref l ∧ vs = [] ∧ H l = some (.lst xs) ∧ xs[xs.length - 1]? = some y ∧ Q y (upd H l (.lst xs.dropLast))
theorem mt_pop : MtM X "list.pop" rPop := by
 intro pins s σ H x vs v us Q I rx rv h
 obtain ⟨l,xs,y,rfl,rfl,hH,hy,q⟩ := h
 cases rx
 have hus := rv.zero
 subst hus
 obtain ⟨z,its,n,r,hl,e⟩ := I.lstM hH
 obtain ⟨u,hu,ru⟩ := r.get hy
 have hy' : its.toArray[its.toArray.size - 1]? = some u := by
  show its.toArray[its.length - 1]? = some u
  rw [← Array.getElem?_toList,← hl]
  exact hu
 refine call_meets F.slot_list_pop ⟨_,e,rfl⟩ F.entry_list_pop (F.args_list_pop_1 _) (MeetsSeq.list_pop_last l its.toArray n u hy' (by rw [List.size_toArray]; omega)) ⟨e,?_⟩
 refine ⟨y,_,I.lset (its' := its.dropLast) hH e ?_ r.dropLast ?_,ru,q⟩
 ·show its.toArray.eraseIdxIfInBounds (its.toArray.size - 1) = its.dropLast.toArray
  rw [List.size_toArray,List.eraseIdxIfInBounds_toArray,erase_last]
 ·rw [List.length_dropLast]
  omega
def rPopAt : V → List V → Hp → VK → Prop := fun x vs H Q => ∃ l xs i k y,x = .ref l ∧ vs = [.int i] ∧ H l = some (.lst xs) ∧ -(2 ^ 63) ≤ i ∧ i < 2 ^ 63 ∧ seqIndex? i xs.length = some k ∧ xs[k]? = some y ∧ Q y (upd H l (.lst (xs.eraseIdx k)))
theorem mt_popAt : MtM X "list.pop" rPopAt := by
 intro pins s σ H x vs v us Q I rx rv h
 obtain ⟨l,xs,i,k,y,rfl,rfl,hH,h1,h2,hk,hy,q⟩ := h
 cases rx
 obtain ⟨u,rfl,ru⟩ := rv.one
 obtain ⟨t,rfl⟩ := ru
 obtain ⟨z,its,n,r,hl,e⟩ := I.lstM hH
 obtain ⟨w,hw,rw'⟩ := r.get hy
 refine call_meets F.slot_list_pop ⟨_,e,rfl⟩ F.entry_list_pop (F.args_list_pop_2 _ _)
  (MeetsSeq.list_pop_at l its.toArray n i t k w (fitsIndex_both h1 h2) (by rw [List.size_toArray,← hl]; exact hk) (by rw [← Array.getElem?_toList]; exact hw) (by rw [List.size_toArray]; omega)) ⟨e,?_⟩
 refine ⟨y,_,I.lset (its' := its.eraseIdx k) hH e ?_ (r.eraseIdx k) ?_,rw',q⟩
 ·show its.toArray.eraseIdxIfInBounds k = (its.eraseIdx k).toArray
  rw [List.eraseIdxIfInBounds_toArray]
 ·have := len_erase xs k
  omega
def rClear : V → List V → Hp → VK → Prop := fun x vs H Q => ∃ l xs,x = .ref l ∧ vs = [] ∧ H l = some (.lst xs) ∧ Q .non (upd H l (.lst []))
theorem mt_clear : MtM X "list.clear" rClear := by
 intro pins s σ H x vs v us Q I rx rv h
 obtain ⟨l,xs,rfl,rfl,hH,q⟩ := h
 cases rx
 have hus := rv.zero
 subst hus
 obtain ⟨z,its,n,r,hl,e⟩ := I.lstM hH
 refine call_meets F.slot_list_clear ⟨_,e,rfl⟩ F.entry_list_clear (F.args_list_clear_1 _) (AutoSeq1.list_clear_list_0 l its.toArray n (by rw [List.size_toArray]; omega)) ⟨e,?_⟩
 exact ⟨.non,_,I.lset (its' := []) (ys := []) hH e rfl .nil (Nat.zero_le _),rfl,q⟩
theorem len_rep {α : Type} (xs : List α) (k : Nat) : (List.replicate k xs).flatten.length = k * xs.length := by
 induction k with
 | zero => simp
 | succ k ih => rw [List.replicate_succ,List.flatten_cons,List.length_append,ih,Nat.succ_mul,Nat.add_comm]
end
section
variable {prog : Program} {w : World} {A : Around} {E : Value → Shared → Prop} {s : Shared}
set_option maxRecDepth 100000 in
end
section
variable {X : Cx}
end
end L2
namespace Att
open PySem PySem.W PySem.Calls PyProof.Rows
theorem ints_of_wellAll {P : Params} {h : Heap} : ∀ (ns : List Int) (vs : List Value),WellAll P h vs (ns.map WData.int) → IntsAre vs ns := by
 intro ns
 induction ns with
 | nil =>
  intro vs w
  rw [List.map_nil] at w
  cases w
  exact .nil
 | cons n ns ih =>
  intro vs w
  rw [List.map_cons] at w
  cases w with
  | cons a b =>
   cases a
   exact .cons _ _ (ih _ b)
theorem script_of {l : OpenLaw} {n : Nat} (hn : l.most = some n) {P : Params} {h : Heap} {args : List WData} {vals : List Value}
  (hpre : l.row.toRowW.claim.pre args = true) (hwl : WellAll P h vals args) :
  ∃ a vs ns, vals = [Value.ref a] ∧ args = [WData.list (ns.map WData.int)] ∧ h.get? a = some { cls := .type "list", data := .seq vs.toArray } ∧ IntsAre vs ns ∧ ns.length ≤ n := by
 have hsh : WShape.hasAll [] args [.list .int] = true := (pre_splitW hpre).1
 have hc : l.pre.holds [] { args := args } = true := (pre_splitW hpre).2
 obtain ⟨d,r,rfl,h1,h2⟩ := hasAllW_cons hsh
 obtain rfl := hasAllW_nil h2
 obtain ⟨xs,rfl,h3⟩ := hasW_list h1
 obtain ⟨ns,rfl⟩ := items_int h3
 have hlen : ns.length ≤ n := by
  unfold OpenLaw.pre at hc
  have h4 : (WTm.not (.lt (.lit (.int (n : Int))) (.len (.arg 0)))).holds [] { args := [.list (ns.map .int)] } = true := by
   have h4 := (holds_andW hc).1
   rw [hn] at h4
   exact h4
  have h5 := condW_of h4 (w_not (w_lt w_lit (w_len_list (w_arg rfl))))
  rw [List.length_map] at h5
  refine Nat.le_of_not_lt fun q => ?_
  have q' : (n : Int) < ((ns.length : Nat) : Int) := by omega
  first
   | (rw [decide_eq_true q'] at h5; exact absurd h5 (by decide))
   | (simp at h5; omega)
 cases hwl with
 | cons w1 w2 =>
  cases w2
  cases w1 with
  | list ho hall => exact ⟨_,_,ns,rfl,rfl,ho,ints_of_wellAll ns _ hall,hlen⟩
theorem post_true (l : OpenLaw) (args : List WData) : l.row.toRowW.claim.post args (.bool true) args = true :=
 postW_of (r := l.row.toRowW) (X := (true == true))
  (show WShape.has [] (.bool true) .bool = true by first | rfl | decide | simp [WShape.has,WShape.arms,WShape.armsAll])
  (show (WTm.eq .res (.lit (.bool true))).value [] { args := args,res := some (.bool true),after := args } = some (.bool (true == true)) from w_eq_bool (w_res rfl) w_lit) rfl
theorem attach_call {l : OpenLaw} {n : Nat} {q : Program} {loose : List Str} {XP : (Str → Option Value) → Heap → Prop} {YP : World → Heap → Prop} {d : DefRec}
  (hn : l.most = some n) (hdf : d.params.defaults = [])
  (call : ∀ (w : World) (s₀ s₁ : Shared) (mg mb : Str → Option Value) (fa : Addr) (o : Obj) (pm cd doc : Value) (a : Addr) (vs : List Value) (ns : List Int),
   Ground q loose [] XP w s₀ mg mb s₁.heap → YP w s₁.heap →
   s₁.heap.get? fa = some o → o.data = .func (docDef d.name d.params d.body d.scope pm cd doc) → s₁.heap.CodeRec cd d.name → mg d.name = some (.ref fa) →
   s₁.heap.get? a = some { cls := .type "list", data := .seq vs.toArray } → IntsAre vs ns → ns.length ≤ n → s₁.gens = #[] →
   codeAny (model l.prog w) callerA (.call (.ref fa) ⟨[.ref a],[]⟩) (fun r s' => r = .ok (.ret (.bool true)) ∧ OldK s₁.heap s'.heap ∧ s'.os = s₁.os ∧ AllBare s'.gens) s₁) :
  WalkO q loose XP YP l.row.toRowW d [] (fun f vs => PySem.call f vs) := by
 intro w s₀ s₁ mg mb G Y fa o pm cd doc dV kV ho hd hcd hD hmg hg args vals as hpre hlay hrd hwl hlo
 obtain rfl : dV = .none := Dflts.none hD hdf
 obtain rfl : kV = .none := Dflts.noKw hD
 obtain ⟨a,vs,ns,rfl,rfl,hobj,hints,hlen⟩ := script_of hn hpre hwl
 refine enter_call (codeAny_mono (call w s₀ s₁ mg mb fa o pm cd doc a vs ns G Y ho (fd_plain hd) hcd hmg hobj hints hlen hg) fun r s' hq => ?_)
 obtain ⟨rfl,h2,h3,h4⟩ := hq
 exact ⟨.inl ⟨.bool true,.bool true,[],rfl,fun _ => rfl,.bool true,post_true l _,fun _ => ⟨List.Pairwise.nil,fun _ hm => (nomatch hm)⟩⟩,h2,h3,h4⟩
section
variable {prog : Program} {w : World} {A : Around} {E : Value → Shared → Prop} {s : Shared} {K : Frag}
end
end Att
namespace L2
open PySem PySem.Spec PyProof.Rows
theorem vals_ints : ∀ {vs : List Value} {ns : List Int},IntsAre vs ns → Vals (ns.map V.int) vs
 | _,_,.nil => .nil
 | _,_,.cons n t h => .cons ⟨t,rfl⟩ (vals_ints h)
def Only (H : Hp) : Prop := ∀ b,H b = none ∨ ∃ o xs,H b = some (.frz o (.lst xs))
theorem law_call {P : Program} {w : World} {K : PySem.W.Frag} {mg mb : Str → Option Value} {CX : CXT} {k : Nat} {fa a : Addr} {fd : FuncData} {x : Str} {sp : Sp} {s₁ : Shared} {vs : List Value} {ns : List Int}
  (KX : K.In s₁.heap) (hns : s₁.heap.Ns mainGlobals mg) (hb : s₁.heap.Ns builtinsNs mb) (hbb : ∀ x : Str, x ≠ "__name__" → mb x = bootBuiltins x) (hlim : s₁.heap.NoLimit) (hg : s₁.gens = #[])
  (ha : s₁.heap.get? a = some { cls := .type "list", data := .seq vs.toArray }) (hi : IntsAre vs ns) (hl : ns.length ≤ sizeLine) (hr : Room k callerA)
  (F : ∀ base : Heap,K.In base → base.Ns mainGlobals mg → FnOk P w K mg base CX k fa fd [x] sp) (hbind : ∀ (s : Shared) (u : Value),BindsTo s fd ⟨[u],[]⟩ [(x,u)])
  (hsp : ∀ H : Hp,Only H → SqL K H a (ns.map V.int) → sp [.ref a] H (fun v _ => v = .bl true) fun _ _ _ => False)
  (hCX : ∀ H e s',CX [] H s₁ (fun _ _ _ => False) e s' → False) :
  codeAny (model P w) callerA (.call (.ref fa) ⟨[.ref a],[]⟩) (fun r s' => r = .ok (.ret (.bool true)) ∧ OldK s₁.heap s'.heap ∧ s'.os = s₁.os ∧ AllBare s'.gens) s₁ := by
 have rv := vals_ints hi
 have lenV := hi.length
 have core : ∀ H : Hp,Only H → SqL K H a (ns.map V.int) → HOk P w H s₁.heap → (∀ b,H b ≠ none → b = a) → (H a ≠ none → K.lookup a = none) →
   codeAny (model P w) callerA (.call (.ref fa) ⟨[.ref a],[]⟩) (fun r s' => r = .ok (.ret (.bool true)) ∧ OldK s₁.heap s'.heap ∧ s'.os = s₁.os ∧ AllBare s'.gens) s₁ := by
  intro H hO hS hok hA hK
  have base_of : ∀ {b : Addr} {o : Obj},s₁.heap.get? b = some o → H b = none → (hidT s₁.heap H).get? b = some o := fun e n => hidT_get e n
  have noA : ∀ {b : Addr} {o : Obj} {es : Array DictEntry} {ep : Nat},s₁.heap.get? b = some o → o.data = .dict es ep → H b = none := fun {b o es ep} e d => by
   cases q : H b with
   | none => rfl
   | some u =>
    have e' : b = a := hA b (by rw [q]; simp)
    subst e'
    rw [ha] at e; cases e
    have d' : Data.seq vs.toArray _ = Data.dict es ep := d
    cases d'
  have nsK : ∀ {b : Addr} {m : Str → Option Value},s₁.heap.Ns b m → (hidT s₁.heap H).Ns b m := fun {b m} ⟨o,es,ep,e,d,r⟩ => ⟨o,es,ep,base_of e (noA e d),d,r⟩
  have hKb : K.In (hidT s₁.heap H) := fun b o e => base_of (KX b o e) (by
   cases q : H b with
   | none => rfl
   | some u =>
    have e' : b = a := hA b (by rw [q]; simp)
    subst e'
    rw [hK (by rw [q]; simp)] at e; cases e)
  have hM : Mod K mg (hidT s₁.heap H) := ⟨hKb,nsK hns,⟨mb,nsK hb,hbb⟩,let ⟨mc,h1,h2⟩ := hlim; ⟨mc,nsK h1,h2⟩⟩
  have e0 : Env0 P w K mg (hidT s₁.heap H) callerA [] s₁ H := ⟨rfl,hM,fun b o e => of_hidT e,Nat.le_of_eq (hidT_size _ _),trivial,fun b hb => absurd (show b ∈ ([] : List Addr) from hb) (by simp),hok,.of_eq hg⟩
  refine codeAny_mono ((F _ hKb (nsK hns)).run callerA [] s₁ H ⟨[.ref a],[]⟩ [.ref a] [.ref a] _ _ hr e0 (hbind s₁ (.ref a)) (.cons rfl .nil) (hsp H hO hS)) fun r s' h => ?_
  cases r with
  | error e => exact (hCX H e s' h).elim
  | ok fl =>
   cases fl with
   | next => exact False.elim h
   | brk => exact False.elim h
   | cont => exact False.elim h
   | ret u =>
    obtain ⟨v,H',os,bare,un,hok',r',q⟩ := h
    have q' : v = .bl true := q
    subst q'
    obtain rfl : u = Value.bool true := r'
    refine ⟨rfl,OldK.of_keep fun b o e => ?_,os,bare⟩
    cases q : H b with
    | none => exact un.keep b o e q (by intro z; exact absurd (show b ∈ ([] : List Addr) from z) (by simp)) (by simp)
    | some u =>
     rcases hO b with z | ⟨ob,xs,z⟩
     ·rw [q] at z; cases z
     ·have z2 := un.frzs b ob _ z
      obtain ⟨e1,_⟩ := hok b _ z
      obtain ⟨e2,_⟩ := hok' b _ z2
      rw [e] at e1; cases e1
      exact e2
 cases hk : K.lookup a with
 | some o =>
  have e := KX a o hk
  rw [ha] at e
  cases e
  refine core (fun _ => none) (fun _ => .inl rfl) (.inr ⟨_,vs.toArray,_,hk,rfl,rfl,rfl,by rw [List.size_toArray,lenV]; exact hl,by simpa using rv⟩) (fun b u z => by have z' : (none : Option HO) = some u := z; cases z') (fun b z => absurd rfl z) fun z => absurd rfl z
 | none =>
  refine core (fun b => if b = a then some (.frz { cls := .type "list", data := .seq vs.toArray } (.lst (ns.map V.int))) else none) (fun b => ?_) (.inl (.inr ⟨{ cls := .type "list", data := .seq vs.toArray }, if_pos rfl⟩)) (fun b u z => ?_) (fun b z => ?_) fun _ => hk
  ·by_cases hb : b = a
   ·exact .inr ⟨_,_,if_pos hb⟩
   ·exact .inl (if_neg hb)
  ·by_cases hb : b = a
   ·have z' := (if_pos hb).symm.trans z
    cases z'
    subst hb
    exact ⟨ha,by rw [List.length_map]; exact hl,vs,_,rv,ha⟩
   ·have z' := (if_neg hb).symm.trans z
    cases z'
  ·by_cases hb : b = a
   ·exact hb
   ·exact absurd (if_neg hb) z
theorem walk_of {l : PySem.W.OpenLaw} {n k : Nat} {q : Program} {loose : List Str} {XP : (Str → Option Value) → Heap → Prop} {YP : World → Heap → Prop} {d : DefRec} {K : Params → PySem.W.Frag} {CX : World → CXT} {sp : World → Sp} {x : Str}
  (hn : l.most = some n) (hn2 : n ≤ sizeLine) (hdf : d.params.defaults = []) (hr : Room k callerA)
  (hY : ∀ (w : World) (h : Heap),YP w h → (K w.params).In h)
  (F : ∀ (w : World) (mg : Str → Option Value) (fa : Addr) (h : Heap),(K w.params).In h → h.Ns mainGlobals mg → mg d.name = some (.ref fa) →
   ∃ fd : FuncData,(∀ (s : Shared) (u : Value),BindsTo s fd ⟨[u],[]⟩ [(x,u)]) ∧
    ∀ base : Heap,(K w.params).In base → base.Ns mainGlobals mg → FnOk l.prog w (K w.params) mg base (CX w) k fa fd [x] (sp w))
  (hsp : ∀ (w : World) (H : Hp) (a : Addr) (ns : List Int),ns.length ≤ n → Only H → SqL (K w.params) H a (ns.map V.int) → sp w [.ref a] H (fun v _ => v = .bl true) fun _ _ _ => False)
  (hCX : ∀ (w : World) (H : Hp) (s : Shared) (e : Value) (s' : Shared),CX w [] H s (fun _ _ _ => False) e s' → False) :
  PySem.W.WalkO q loose XP YP l.row.toRowW d [] (fun f vs => PySem.call f vs) := by
 refine Att.attach_call hn hdf fun w s₀ s₁ mg mb fa o pm cd doc a vs ns G Y ho hd hcd hmg hobj hints hlen hg => ?_
 have KX := hY w _ Y
 obtain ⟨fd,hb,hF⟩ := F w mg fa _ KX G.T.g hmg
 exact law_call KX G.T.g G.T.b G.T.builtins G.T.nolimit hg hobj hints (Nat.le_trans hlen hn2) hr hF hb (fun H hO hS => hsp w H a ns hlen hO hS) fun H e s' => hCX w H s₁ e s'
def defArgs (s : Stmt) : Arguments := match s with
 | .FunctionDef _ a _ _ _ _ _ _ _ _ => a
 | _ => { posonlyargs := [],args := [],vararg := none,kwonlyargs := [],kw_defaults := [],kwarg := none,defaults := [] }
def defBody (s : Stmt) : List Stmt := match s with
 | .FunctionDef _ _ b _ _ _ _ _ _ _ => b
 | _ => []
def defScope (s : Stmt) : Scope := match s with
 | .FunctionDef _ _ _ _ _ _ sc _ _ _ => sc
 | _ => { kind := .function,names := [],isGenerator := false,isCoroutine := false }
abbrev CX0 : CXT := fun _ _ _ _ _ _ => False
abbrev E0 : XK := fun _ _ _ => False
theorem pass0 {X : Cx} : Passes CX0 X E0 := fun _ _ _ _ _ _ _ h => h.elim
structure Fun (K : PySem.W.Frag) (x qual : Str) (st : Stmt) (f : Addr) (fd : FuncData) : Prop where
 ex : ∃ (oc : Value) (od : Option Addr) (kV doc pm : Value) (an : Option Addr) (cdv ct : Value) (osl : Array (Option Value)),
  fd = PySem.W.fnOf x qual (defArgs st) (defBody st) (defScope st) .none kV doc pm an cdv ct ∧ K.lookup f = some ⟨oc,od,.func fd,osl⟩ ∧ PySem.W.codeIn K cdv qual = true
 kp : PySem.W.keepIn K (.ref f) = true
section
variable {P : Program} {w : World} {K : PySem.W.Frag} {mg : Str → Option Value} {base : Heap}
theorem Fun.ok {x qual : Str} {st : Stmt} {f : Addr} {fd : FuncData} {N ps : List Str} {k : Nat} {sp : Sp} (F : Fun K x qual st f fd) (S : FnScope N ps (defScope st)) (len : ∀ vs H Q E,sp vs H Q E → vs.length = ps.length)
  (hbody : ∀ (cdv : Value) (A : Around) (outer : List Env) (s : Shared) (H : Hp) (vs : List V) (Q : VK) (E : XK),Room k (A.deeper (envOfC qual (defScope st) s.heap.objs.size f cdv)) → sp vs H Q E →
   ∃ t,PSs (cxOf CX0 P w K mg base N qual (defScope st) f cdv A outer s H E).nox (defBody st) t ∧ t { nx := fun _ H' => Q .non H',rt := Q } (start N vs) H) : FnOk P w K mg base CX0 (k + 1) f fd ps sp := by
 obtain ⟨oc,od,kV,doc,pm,an,cdv,ct,osl,rfl,lk,hcd⟩ := F.ex
 refine fn_of lk hcd S len fun A outer s H vs Q E hr hsp => ?_
 obtain ⟨t,h,q⟩ := hbody cdv A outer s H vs Q E hr hsp
 exact ⟨t,h.nox,q⟩
theorem Fun.binds {x qual : Str} {st : Stmt} {f : Addr} {fd : FuncData} {ps : List Str} (F : Fun K x qual st f fd)
  (h : ∀ (kV doc pm : Value) (an : Option Addr) (cdv ct : Value) (us : List Value),us.length = ps.length → bindArgs (PySem.W.fnOf x qual (defArgs st) (defBody st) (defScope st) .none kV doc pm an cdv ct) ⟨us,[]⟩ = pure (ps.zip us)) : Binds K fd ps [] := by
 obtain ⟨oc,od,kV,doc,pm,an,cdv,ct,osl,rfl,lk,hcd⟩ := F.ex
 exact .all (h kV doc pm an cdv ct)
theorem fun_mk {x qual : Str} {st : Stmt} {f : Addr} {oc : Value} {od an : Option Addr} {osl : Array (Option Value)} {kV doc pm cdv ct : Value} (l : K.lookup f = some ⟨oc,od,.func (PySem.W.fnOf x qual (defArgs st) (defBody st) (defScope st) .none kV doc pm an cdv ct),osl⟩)
  (c : PySem.W.codeIn K cdv qual = true) (k : PySem.W.keepIn K (.ref f) = true) : Fun K x qual st f (PySem.W.fnOf x qual (defArgs st) (defBody st) (defScope st) .none kV doc pm an cdv ct) := ⟨⟨oc,od,kV,doc,pm,an,cdv,ct,osl,rfl,l,c⟩,k⟩
end
section
variable {X : Cx}
end
def Same (H H' : Hp) : Prop := ∀ b o,H b = some o → H' b = some o
theorem Same.refl (H : Hp) : Same H H := fun _ _ h => h
theorem Same.trans {H H1 H2 : Hp} (a : Same H H1) (b : Same H1 H2) : Same H H2 := fun c o h => b c o (a c o h)
theorem Same.free {H H' : Hp} (e : Same H H') {l : Addr} (h : H' l = Option.none) : H l = Option.none := by
 cases q : H l with
 | none => rfl
 | some o =>
  rw [e l o q] at h
  cases h
section
variable {κ : Type} [DecidableEq κ]
def valV (kvs : List (κ × V)) (k : κ) : Option V := (kvs.find? fun kv => decide (kv.1 = k)).map (·.2)
def putK (kvs : List (κ × V)) (k : κ) (v : V) : List (κ × V) :=
 if (kvs.any fun kv => decide (kv.1 = k)) = true then kvs.map (fun kv => if kv.1 = k then (kv.1,v) else kv) else kvs ++ [(k,v)]
theorem valV_pos {p : κ × V} {r : List (κ × V)} {k : κ} (e : p.1 = k) : valV (p :: r) k = some p.2 := by simp [valV,List.find?_cons,e]
theorem valV_neg {p : κ × V} {r : List (κ × V)} {k : κ} (e : ¬ p.1 = k) : valV (p :: r) k = valV r k := by simp [valV,List.find?_cons,e]
theorem valV_any (k : κ) : ∀ kvs : List (κ × V),(kvs.any fun kv => decide (kv.1 = k)) = (valV kvs k).isSome
 | [] => rfl
 | p :: r => by
  rw [List.any_cons]
  by_cases e : p.1 = k
  ·simp only [valV_pos e,decide_eq_true e,Bool.true_or,Option.isSome_some]
  ·rw [valV_neg e,decide_eq_false e,Bool.false_or]; exact valV_any k r
theorem length_putK (kvs : List (κ × V)) (k : κ) (v : V) : (putK kvs k v).length ≤ kvs.length + 1 := by
 unfold putK
 split
 ·rw [List.length_map]; omega
 ·rw [List.length_append,List.length_cons,List.length_nil]; omega
theorem RelO.isSome_eq {o : Option V} {u : Option Value} (r : RelO o u) : o.isSome = u.isSome := by
 cases o with
 | none => cases u with
  | none => rfl
  | some _ => exact (show False from r).elim
 | some _ => cases u with
  | none => exact (show False from r).elim
  | some _ => rfl
theorem KV.val {kvs : List (κ × V)} {vs : List (κ × Value)} (r : KV kvs vs) (k : κ) : RelO (valV kvs k) (valueAt vs k) := by
 unfold KV at r
 induction r with
 | nil => exact True.intro
 | @cons p q ps qs h t ih =>
  obtain ⟨h1,h2⟩ := h
  by_cases e : p.1 = k
  ·have e' : q.1 = k := h1.symm.trans e
   have b : valueAt (q :: qs) k = some q.2 := by simp [valueAt,List.find?_cons,e']
   rw [valV_pos e,b]; exact h2
  ·have e' : ¬ q.1 = k := fun z => e (h1.trans z)
   have b : valueAt (q :: qs) k = valueAt qs k := by simp [valueAt,List.find?_cons,e']
   rw [valV_neg e,b]; exact ih
theorem KV.any {kvs : List (κ × V)} {vs : List (κ × Value)} (r : KV kvs vs) (k : κ) : (kvs.any fun kv => decide (kv.1 = k)) = vs.any fun kv => decide (kv.1 = k) := by
 unfold KV at r
 induction r with
 | nil => rfl
 | cons h t ih => rw [List.any_cons,List.any_cons,ih,h.1]
theorem KV.repl {kvs : List (κ × V)} {vs : List (κ × Value)} (r : KV kvs vs) (k : κ) {y : V} {u : Value} (ry : RelV y u) :
  KV (kvs.map fun kv => if kv.1 = k then (kv.1,y) else kv) (vs.map fun kv => if kv.1 = k then (kv.1,u) else kv) := by
 unfold KV at r ⊢
 induction r with
 | nil => exact .nil
 | @cons p q ps qs h t ih =>
  rw [List.map_cons,List.map_cons]
  refine .cons ?_ ih
  obtain ⟨h1,h2⟩ := h
  by_cases e : p.1 = k
  ·rw [if_pos e,if_pos (h1.symm.trans e)]; exact ⟨h1,ry⟩
  ·rw [if_neg e,if_neg (fun z => e (h1.trans z))]; exact ⟨h1,h2⟩
theorem KV.put {kvs : List (κ × V)} {vs : List (κ × Value)} (r : KV kvs vs) (k : κ) {y : V} {u : Value} (ry : RelV y u) : KV (putK kvs k y) (stored vs k u) := by
 unfold putK stored
 rw [r.any k]
 by_cases e : (vs.any fun kv => decide (kv.1 = k)) = true
 ·rw [if_pos e,if_pos e]; exact r.repl k ry
 ·rw [if_neg e,if_neg e]; exact Paired.snoc r ⟨rfl,ry⟩
theorem KV.length {kvs : List (κ × V)} {vs : List (κ × Value)} (r : KV kvs vs) : kvs.length = vs.length := Paired.length r
end
theorem kV_is {P : Program} {w : World} {k : Key} {u : Value} (r : RelV (kV k) u) : (mixKind P w).is k u = true := by
 cases k with
 | inl i => obtain ⟨t,e⟩ := (show ∃ t,u = Value.int i t from r); subst e; exact mixKind_int P w i t
 | inr x => obtain ⟨t,e⟩ := (show ∃ t,u = Value.str x t from r); subst e; exact mixKind_str P w x t
theorem items_are {P : Program} {w : World} : ∀ {ks : List Key} {us : List Value},Vals (ks.map kV) us → ItemsAre (mixKind P w) ks us
 | [],_,r => by rw [List.map_nil] at r; cases r; exact .nil
 | k :: ks,_,r => by
  rw [List.map_cons] at r
  cases r with
  | cons h t => exact .cons (kV_is h) (items_are t)
abbrev KT (H : Hp) : List (List Key × V) → List (List Key × Addr × Value) → Prop := Paired fun p q => p.1 = q.1 ∧ H q.2.1 = some (.tup (p.1.map kV)) ∧ RelV p.2 q.2.2
theorem KT.val {H : Hp} {kvs : List (List Key × V)} {xs : List (List Key × Addr × Value)} (r : KT H kvs xs) (k : List Key) : RelO (valV kvs k) ((atKey xs k).map (·.2)) := by
 induction r with
 | nil => exact True.intro
 | @cons p q ps qs h t ih =>
  obtain ⟨h1,_,h2⟩ := h
  by_cases e : p.1 = k
  ·have e' : q.1 = k := h1.symm.trans e
   have b : atKey (q :: qs) k = some q.2 := by simp [atKey,List.find?_cons,e']
   rw [valV_pos e,b]; exact h2
  ·have e' : ¬ q.1 = k := fun z => e (h1.trans z)
   have b : atKey (q :: qs) k = atKey qs k := by simp [atKey,List.find?_cons,e']
   rw [valV_neg e,b]; exact ih
theorem KT.repl {H : Hp} {kvs : List (List Key × V)} {xs : List (List Key × Addr × Value)} (r : KT H kvs xs) (k : List Key) {y : V} {u : Value} (ry : RelV y u) :
  KT H (kvs.map fun kv => if kv.1 = k then (kv.1,y) else kv) (xs.map (putAt k u)) := by
 induction r with
 | nil => exact .nil
 | @cons p q ps qs h t ih =>
  rw [List.map_cons,List.map_cons]
  refine .cons ?_ ih
  obtain ⟨h1,h2,h3⟩ := h
  unfold putAt
  by_cases e : p.1 = k
  ·rw [if_pos e,if_pos (h1.symm.trans e)]; exact ⟨h1,h2,ry⟩
  ·rw [if_neg e,if_neg (fun z => e (h1.trans z))]; exact ⟨h1,h2,h3⟩
theorem KT.put {H : Hp} {kvs : List (List Key × V)} {xs : List (List Key × Addr × Value)} (r : KT H kvs xs) (k : List Key) {b : Addr} {y : V} {u : Value} (hb : H b = some (.tup (k.map kV))) (ry : RelV y u) :
  KT H (putK kvs k y) (storedH xs k b u) := by
 have e : (kvs.any fun kv => decide (kv.1 = k)) = (atKey xs k).isSome := by
  rw [valV_any,(r.val k).isSome_eq,Option.isSome_map]
 unfold putK storedH
 rw [e]
 by_cases q : (atKey xs k).isSome = true
 ·rw [if_pos q,if_pos q]; exact r.repl k ry
 ·rw [if_neg q,if_neg q]; exact Paired.snoc r ⟨rfl,hb,ry⟩
theorem KT.keeps {H H' : Hp} {kvs : List (List Key × V)} {xs : List (List Key × Addr × Value)} (r : KT H kvs xs) (ht : ∀ b ys,H b = some (.tup ys) → H' b = some (.tup ys)) : KT H' kvs xs :=
 Paired.mapP r fun _ _ z => ⟨z.1,ht _ _ z.2.1,z.2.2⟩
section
variable {P : Program} {w : World} {H : Hp} {h : Heap} {a : Addr}
theorem rd_of {u : HO} (ok : HOk P w H h) (e : Rd H a u) : ObjOk P w H h a u := e.ok ok
theorem dk_rd {kvs : List (Key × V)} (ok : HOk P w H h) (e : Rd H a (.dK kvs)) : kvs.length ≤ sizeLine ∧ (a == sysModules) = false ∧ ∃ vs,KV kvs vs ∧ h.DictOf (mixKind P w) a vs :=
 show ObjOk P w H h a (.dK kvs) from rd_of ok e
theorem dk_of {kvs : List (Key × V)} (ok : HOk P w H h) (e : H a = some (.dK kvs)) : kvs.length ≤ sizeLine ∧ (a == sysModules) = false ∧ ∃ vs,KV kvs vs ∧ h.DictOf (mixKind P w) a vs := dk_rd ok (.inl e)
theorem key_of {ks : List Key} (ok : HOk P w H h) (e : H a = some (.tup (ks.map kV))) : (tupleKind (mixKind P w)).is h ks a := by
 obtain ⟨_,its,r,o,h1,h2,n,h3⟩ := (show ObjOk P w H h a (.tup (ks.map kV)) from ok a _ e)
 exact ⟨o,its.toArray,n,h1,h2,h3,by simpa using items_are r⟩
theorem dt_rd {kvs : List (List Key × V)} (ok : HOk P w H h) (e : Rd H a (.dT kvs)) : kvs.length ≤ sizeLine ∧ (a == sysModules) = false ∧
  ∃ xs,KT H kvs xs ∧ h.DictOfH (tupleKind (mixKind P w)) a xs := by
 obtain ⟨z,y,xs,r,o,es,ep,h1,h2,h3,h4,h5⟩ := (show ObjOk P w H h a (.dT kvs) from rd_of ok e)
 refine ⟨z,y,xs,r,o,es,ep,h1,h2,h3,h4,fun x hx => ?_,h5⟩
 have all : ∀ {l : List (List Key × V)} {m : List (List Key × Addr × Value)},KT H l m → ∀ x ∈ m,(tupleKind (mixKind P w)).is h x.1 x.2.1 := by
  intro l m q
  induction q with
  | nil => intro x hx; exact nomatch hx
  | @cons p q ps qs hq t ih =>
   intro x hx
   rcases List.mem_cons.mp hx with e | hx
   ·subst e
    exact key_of ok (by rw [← hq.1]; exact hq.2.1)
   ·exact ih x hx
 exact all r x hx
theorem dt_of {kvs : List (List Key × V)} (ok : HOk P w H h) (e : H a = some (.dT kvs)) : kvs.length ≤ sizeLine ∧ (a == sysModules) = false ∧
  ∃ xs,KT H kvs xs ∧ h.DictOfH (tupleKind (mixKind P w)) a xs := dt_rd ok (.inl e)
end
def DGet (H : Hp) (a : Addr) (y : V) (r : Option V) : Prop :=
 (∃ kvs k,Rd H a (.dK kvs) ∧ y = kV k ∧ r = valV kvs k) ∨ ∃ kvs k b,Rd H a (.dT kvs) ∧ y = .ref b ∧ H b = some (.tup (k.map kV)) ∧ r = valV kvs k
def DPut (H : Hp) (a : Addr) (y v : V) (H' : Hp) : Prop :=
 (∃ kvs k,H a = some (.dK kvs) ∧ y = kV k ∧ kvs.length < sizeLine ∧ H' = upd H a (.dK (putK kvs k v))) ∨
 ∃ kvs k b,H a = some (.dT kvs) ∧ y = .ref b ∧ H b = some (.tup (k.map kV)) ∧ kvs.length < sizeLine ∧ H' = upd H a (.dT (putK kvs k v))
theorem DGet.k {H : Hp} {a : Addr} {kvs : List (Key × V)} {k : Key} (e : H a = some (.dK kvs)) : DGet H a (kV k) (valV kvs k) := .inl ⟨kvs,k,.inl e,rfl,rfl⟩
theorem DPut.k {H : Hp} {a : Addr} {kvs : List (Key × V)} {k : Key} {v : V} (e : H a = some (.dK kvs)) (hl : kvs.length < sizeLine) : DPut H a (kV k) v (upd H a (.dK (putK kvs k v))) := .inl ⟨kvs,k,e,rfl,hl,rfl⟩
section
variable {X : Cx} {pins : List (Addr × Obj)} {σ : St} {H : Hp} {s : Shared} {a : Addr} {y v : V} {u r : Value} {o : Option V} {A : Around} {E : Value → Shared → Prop}
theorem Inv.big (I : Inv X pins σ H s) : sysModules < s.heap.objs.size := by
 have h : mainGlobals < s.heap.objs.size := (I.mod.glob.keeps I.bk).lt
 exact Nat.lt_trans (by decide) h
theorem d_getItem {Q : Value → Shared → Prop} (hu : A.units + 1 < cLine) (I : Inv X pins σ H s) (g : DGet H a y (some v)) (ry : RelV y u) (h : ∀ w' s',Inv X pins σ H s' → RelV v w' → Q w' s') :
  wpAny (model X.prog X.w) A (getItem (.ref a) u) Q E s := by
 rcases g with ⟨kvs,k,e,ey,l⟩ | ⟨kvs,k,b,e,ey,eb,l⟩
 ·subst ey
  obtain ⟨z,hd,vs,rel,dd⟩ := dk_rd I.hok e
  obtain ⟨w',hw,rw'⟩ := RelO.some_of (v := v) (o := valueAt vs k) (by rw [l]; exact rel.val k)
  exact wpAny_getItem_of (kV_is ry) dd.mapOf hw (h w' _ (I.tok _) rw')
 ·subst ey
  cases (show u = Value.ref b from ry)
  obtain ⟨z,hd,xs,rel,dd⟩ := dt_rd I.hok e
  obtain ⟨w',hw,rw'⟩ := RelO.some_of (v := v) (o := (atKey xs k).map (·.2)) (by rw [l]; exact rel.val k)
  obtain ⟨p,hp,hp2⟩ := Option.map_eq_some_iff.mp hw
  refine wpAny_getItem_heap (tupleKind_room_in1 hu) (key_of I.hok eb) dd hp ?_
  rw [hp2]
  exact h w' _ (I.tok _) rw'
theorem d_in {Q : Value → Shared → Prop} (hu : A.units + 1 < cLine) (I : Inv X pins σ H s) (g : DGet H a y o) (ry : RelV y u) (h : ∀ s',Inv X pins σ H s' → Q (.bool o.isSome) s') :
  wpAny (model X.prog X.w) A (compareOp .In u (.ref a)) Q E s := by
 rcases g with ⟨kvs,k,e,ey,l⟩ | ⟨kvs,k,b,e,ey,eb,l⟩
 ·subst ey
  obtain ⟨z,hd,vs,rel,dd⟩ := dk_rd I.hok e
  refine wpAny_in_of (kV_is ry) hd dd.mapOf ?_
  rw [← (rel.val k).isSome_eq,← l]
  exact h _ (I.tok _)
 ·subst ey
  cases (show u = Value.ref b from ry)
  obtain ⟨z,hd,xs,rel,dd⟩ := dt_rd I.hok e
  refine wpAny_in_heap (tupleKind_room_in1 hu) (key_of I.hok eb) hd dd ?_
  have q := (rel.val k).isSome_eq
  rw [Option.isSome_map] at q
  rw [← q,← l]
  exact h _ (I.tok _)
theorem d_notIn {Q : Value → Shared → Prop} (hu : A.units + 1 < cLine) (I : Inv X pins σ H s) (g : DGet H a y o) (ry : RelV y u) (h : ∀ s',Inv X pins σ H s' → Q (.bool (!o.isSome)) s') :
  wpAny (model X.prog X.w) A (compareOp .NotIn u (.ref a)) Q E s := by
 rcases g with ⟨kvs,k,e,ey,l⟩ | ⟨kvs,k,b,e,ey,eb,l⟩
 ·subst ey
  obtain ⟨z,hd,vs,rel,dd⟩ := dk_rd I.hok e
  refine wpAny_notIn_of (kV_is ry) hd dd.mapOf ?_
  rw [← (rel.val k).isSome_eq,← l]
  exact h _ (I.tok _)
 ·subst ey
  cases (show u = Value.ref b from ry)
  obtain ⟨z,hd,xs,rel,dd⟩ := dt_rd I.hok e
  refine wpAny_notIn_heap (tupleKind_room_in1 hu) (key_of I.hok eb) hd dd ?_
  have q := (rel.val k).isSome_eq
  rw [Option.isSome_map] at q
  rw [← q,← l]
  exact h _ (I.tok _)
theorem d_write {h' : Heap} {t' : Nat} {ob : HO} (I : Inv X pins σ H s) (mu : Mut (H a)) (hs : Heap.SameBut a s.heap h') (he : ∃ q,h'.get? a = some q) (new : ObjOk X.prog X.w (upd H a ob) h' a ob) :
  Inv X pins σ (upd H a ob) { s with heap := h',toks := t' } :=
 I.write (x := a) (e := a) mu (.inl rfl) (fun b q hb z => (hs.2 b hb).trans z) he new
theorem dk_new {P : Program} {w : World} {H' : Hp} {h' : Heap} {kvs : List (Key × V)} {vs : List (Key × Value)} (z : kvs.length ≤ sizeLine) (hd : (a == sysModules) = false) (rel : KV kvs vs) (dd : h'.DictOf (mixKind P w) a vs) :
  ObjOk P w H' h' a (.dK kvs) := ⟨z,hd,vs,rel,dd⟩
theorem d_setItem {H' : Hp} {Q : Unit → Shared → Prop} (hu : A.units + 1 < cLine) (I : Inv X pins σ H s) (g : DPut H a y v H') (ry : RelV y u) (rv : RelV v r) (h : ∀ s',Inv X pins σ H' s' → Q () s') :
  wpAny (model X.prog X.w) A (setItem (.ref a) u r) Q E s := by
 rcases g with ⟨kvs,k,e,ey,l,eH⟩ | ⟨kvs,k,b,e,ey,eb,l,eH⟩
 ·subst ey eH
  obtain ⟨z,hd,vs,rel,dd⟩ := dk_of I.hok e
  have hz : vs.length ≤ sizeLine := by rw [← rel.length]; exact z
  have hl : (putK kvs k v).length ≤ sizeLine := by have := length_putK kvs k v; omega
  refine wpAny_setItem_pairs (hsz := hz) (kV_is ry) dd fun h' dd' hs => h _ ?_
  have he : ∃ q,h'.get? a = some q := let ⟨q,_,_,hq,_⟩ := dd'; ⟨q,hq⟩
  exact d_write I (by rw [e]; exact True.intro) hs he (dk_new hl hd (rel.put k rv) dd')
 ·subst ey eH
  cases (show u = Value.ref b from ry)
  obtain ⟨z,hd,xs,rel,dd⟩ := dt_of I.hok e
  have hz : xs.length ≤ sizeLine := by rw [← Paired.length rel]; exact z
  have hl : (putK kvs k v).length ≤ sizeLine := by have := length_putK kvs k v; omega
  refine wpAny_setItem_heap (hsz := hz) (tupleKind_room_in1 hu) (key_of I.hok eb) dd fun h' dd' hs => h _ ?_
  obtain ⟨q,es,ep,hq,h2,h3,h4,_,h5⟩ := dd'
  refine d_write I (by rw [e]; exact True.intro) hs ⟨q,hq⟩ ⟨hl,hd,_,(rel.put k eb rv).keeps fun c ys ec => ?_,q,es,ep,hq,h2,h3,h4,h5⟩
  rw [upd_ne (ne_of ec e (fun z => nomatch z))]
  exact ec
end
section
variable {X : Cx} {pins : List (Addr × Obj)} {σ : St} {H : Hp} {s : Shared} {a : Addr} {kvs : List (Key × V)} {k : Key} {u : Value} {A : Around} {E : Value → Shared → Prop}
end
def NoSl (i : Expr) : Prop := ∀ ov iv,subscripted i false ov iv = operate [ov,iv] (getItem ov iv)
theorem subD_of {prog : Program} {w : World} {A : Around} {E : Value → Shared → Prop} {s : Shared} {env : Env} {value slice : Expr} {pos : Pos} {T id : String} {Q : Value → Shared → Prop}
  (hl : typeLookup (.type T) "__getitem__" = pure (some (.builtin id))) (hs : NoSl slice)
  (h : wpAny (model prog w) A (eval value env) (fun o s₁ => wpAny (model prog w) A (eval slice env) (fun i s₂ => s₂.TypeIs o T ∧ wpAny (model prog w) A (getItem o i) Q E s₂) E s₁) E s) :
  wpAny (model prog w) A (eval (.Subscript value slice pos) env) Q E s := by
 refine Subscript_ (wpAny_mono h (fun o s₁ h₁ => wpAny_mono h₁ (fun i s₂ h₂ => ?_) fun _ _ x => x) fun _ _ x => x)
 obtain ⟨hT,h₂⟩ := h₂
 unfold subscriptTail
 refine wpAny_bind ?_
 rw [getitemInPython_of_ne hT.not_modules]
 refine wpAny_bind (wpAny_specialOf hT hl ?_)
 have fin : wpAny (model prog w) A (subscripted slice false o i) (fun r s₃ => wpAny (model prog w) A (letTemporaryGo value o r >>= fun _ => pure r) Q E s₃) E s₂ := by
  rw [hs o i]
  exact wpAny_operating (wpAny_mono h₂ (fun r s₃ h₃ => wpAny_bind (wpAny_letTemporaryGo (wpAny_pure h₃))) fun _ _ x => x)
 first
  | exact wpAny_pure (wpAny_bind fin)
  | exact wpAny_bind (wpAny_pure (wpAny_bind fin))
  | exact wpAny_bind fin
theorem dict_typeIs {X : Cx} {pins : List (Addr × Obj)} {σ : St} {H : Hp} {s : Shared} {a : Addr} {y : V} {o : Option V} (I : Inv X pins σ H s) (g : DGet H a y o) : s.TypeIs (.ref a) "dict" := by
 rcases g with ⟨kvs,k,e,_,_⟩ | ⟨kvs,k,b,e,_,_,_⟩
 ·obtain ⟨_,_,vs,_,dd⟩ := dk_rd I.hok e
  exact dd.typeIs
 ·obtain ⟨_,_,xs,_,dd⟩ := dt_rd I.hok e
  exact dd.typeIs
def tDGet (td ty : TE) : TE := fun σ H Q => td σ H fun x H1 => ty σ H1 fun y H2 => ∃ a v,x = .ref a ∧ DGet H2 a y (some v) ∧ Q v H2
def tDIn (ty td : TE) : TE := fun σ H Q => ty σ H fun y H1 => td σ H1 fun x H2 => ∃ a o,x = .ref a ∧ DGet H2 a y o ∧ Q (.bl o.isSome) H2
def tDNotIn (ty td : TE) : TE := fun σ H Q => ty σ H fun y H1 => td σ H1 fun x H2 => ∃ a o,x = .ref a ∧ DGet H2 a y o ∧ Q (.bl (!o.isSome)) H2
def sDPut (td ty tv : TE) : TS := fun D σ H => tv σ H fun v H1 => td σ H1 fun x H2 => ty σ H2 fun y H3 => ∃ a H4,x = .ref a ∧ DPut H3 a y v H4 ∧ D.nx σ H4
section
variable {X : Cx} {o i e value : Expr} {pos pos' tpos : Pos} {td ty tv : TE}
theorem pe_dget (hu : X.A.units + 1 < cLine) (ho : PE X o td) (hi : PE X i ty) (hs : NoSl i) : PE X (.Subscript o i pos) (tDGet td ty) := by
 intro pins s σ H Q I h
 refine subD_of PySem.F.slot_dict_getitem.lookup hs (thn (ho pins s σ H _ I h) fun u s1 ⟨x,H1,I1,rx,q1⟩ => thn (hi pins s1 σ H1 _ I1 q1) fun iv s2 ⟨y,H2,I2,ry,a,v,ex,g,q2⟩ => ?_)
 subst ex
 obtain rfl : u = Value.ref a := rx
 exact ⟨dict_typeIs I2 g,d_getItem hu I2 g ry fun w' s3 I3 rw' => ⟨v,H2,I3,rw',q2⟩⟩
theorem pc_din (hu : X.A.units + 1 < cLine) (hi : PE X i ty) (ho : PE X o td) : PC X .In i o (tDIn ty td) := by
 intro pins s σ H Q I h
 refine thn (hi pins s σ H _ I h) fun iv s1 ⟨y,H1,I1,ry,q1⟩ => thn (ho pins s1 σ H1 _ I1 q1) fun u s2 ⟨x,H2,I2,rx,a,ov,ex,g,q2⟩ => ?_
 subst ex
 obtain rfl : u = Value.ref a := rx
 exact d_in hu I2 g ry fun s3 I3 => ⟨.bl ov.isSome,H2,I3,rfl,q2⟩
theorem pc_dnotin (hu : X.A.units + 1 < cLine) (hi : PE X i ty) (ho : PE X o td) : PC X .NotIn i o (tDNotIn ty td) := by
 intro pins s σ H Q I h
 refine thn (hi pins s σ H _ I h) fun iv s1 ⟨y,H1,I1,ry,q1⟩ => thn (ho pins s1 σ H1 _ I1 q1) fun u s2 ⟨x,H2,I2,rx,a,ov,ex,g,q2⟩ => ?_
 subst ex
 obtain rfl : u = Value.ref a := rx
 exact d_notIn hu I2 g ry fun s3 I3 => ⟨.bl (!ov.isSome),H2,I3,rfl,q2⟩
theorem ps_dput (hu : X.A.units + 1 < cLine) (ho : PE X o td) (hi : PE X i ty) (hv : PE X value tv) (hs : swapsWith value (some (.Subscript o i pos')) pos.line X.env = pure false) :
  PS X (.Assign [.Subscript o i pos'] value pos) (sDPut td ty tv) := by
 intro pins s σ H D I h
 refine wpAny_Assign_Subscript (thn (hv pins s σ H _ I h) fun r s1 ⟨v,H1,I1,rv,q1⟩ => thn (ho pins s1 σ H1 _ I1 q1) fun u s2 ⟨x,H2,I2,rx,q2⟩ => thn (hi pins s2 σ H2 _ I2 q2) fun iv s3 ⟨y,H3,I3,ry,a,H4,ex,g,q3⟩ => ?_) hs
 subst ex
 obtain rfl : u = Value.ref a := rx
 exact d_setItem hu I3 g ry rv fun s4 I4 => ⟨σ,H4,I4,q3⟩
end
theorem dk_empty {P : Program} {w : World} {H : Hp} (h : Heap) (hb : sysModules < h.objs.size) : ObjOk P w H (h.push { cls := .type "dict", data := .dict #[] }) h.objs.size (.dK []) :=
 ⟨Nat.zero_le _,beq_eq_false_iff_ne.mpr (Ne.symm (Nat.ne_of_lt hb)),[],.nil,Heap.DictOf.new h⟩
section
variable {X : Cx} {pos : Pos}
end
def tPairs : List (TE × TE) → St → Hp → (List (V × V) → Hp → Prop) → Prop
 | [],_,H,Q => Q [] H
 | (tk,tv) :: r,σ,H,Q => tk σ H fun x H1 => tv σ H1 fun y H2 => tPairs r σ H2 fun ps H3 => Q ((x,y) :: ps) H3
abbrev VV : List (V × V) → List (Value × Value) → Prop := Paired fun p q => RelV p.1 q.1 ∧ RelV p.2 q.2
def PPs (X : Cx) (pos : Pos) (keys : List (Option Expr)) (values : List Expr) (trs : List (TE × TE)) : Prop :=
 ∀ (pins : List (Addr × Obj)) (s : Shared) (σ : St) (H : Hp) (Q : List (V × V) → Hp → Prop),Inv X pins σ H s → tPairs trs σ H Q →
  wpAny (model X.prog X.w) X.A (evalPairs (pairTrees keys values X.env pos)) (fun vs s' => ∃ ps H',Inv X pins σ H' s' ∧ VV ps vs ∧ Q ps H') X.xe s
theorem pps_nil {X : Cx} {pos : Pos} : PPs X pos [] [] [] := fun pins s σ H Q I h => pairTrees_nil_walk ⟨[],H,I,.nil,h⟩
theorem pps_cons {X : Cx} {pos : Pos} {k v : Expr} {ks : List (Option Expr)} {vs : List Expr} {tk tv : TE} {trs : List (TE × TE)} (hk : PE X k tk) (hv : PE X v tv) (hr : PPs X pos ks vs trs) :
  PPs X pos (some k :: ks) (v :: vs) ((tk,tv) :: trs) := fun pins s σ H Q I h =>
 pairTrees_cons_walk (thn (hk pins s σ H _ I h) fun u s1 ⟨x,H1,I1,rx,q1⟩ => thn (hv pins s1 σ H1 _ I1 q1) fun w2 s2 ⟨y,H2,I2,ry,q2⟩ =>
  thn (hr pins s2 σ H2 _ I2 q2) fun ws s3 ⟨ps,H3,I3,rel,q3⟩ => ⟨(x,y) :: ps,H3,I3,.cons ⟨rx,ry⟩ rel,q3⟩)
def mergeK (kvs more : List (Key × V)) : List (Key × V) := more.foldl (fun acc kv => putK acc kv.1 kv.2) kvs
theorem KV.merge : ∀ {more : List (Key × V)} {rs : List (Key × Value)} {kvs : List (Key × V)} {vs : List (Key × Value)},KV more rs → KV kvs vs → KV (mergeK kvs more) (merged vs rs) := by
 intro more rs kvs vs r
 unfold KV at r
 induction r generalizing kvs vs with
 | nil => intro q; exact q
 | @cons p q ps qs h t ih =>
  intro r0
  have e : KV (putK kvs p.1 p.2) (stored vs q.1 q.2) := by
   have := r0.put p.1 h.2
   rw [← h.1]; exact this
  exact ih e
theorem length_mergeK : ∀ (more kvs : List (Key × V)),(mergeK kvs more).length ≤ kvs.length + more.length
 | [],kvs => by show kvs.length ≤ kvs.length + 0; omega
 | p :: r,kvs => by
  have h1 := length_mergeK r (putK kvs p.1 p.2)
  have h2 := length_putK kvs p.1 p.2
  show (mergeK (putK kvs p.1 p.2) r).length ≤ _
  rw [List.length_cons]; omega
theorem carries_of {P : Program} {w : World} : ∀ {kvs : List (Key × V)} {ws : List (Value × Value)},VV (kvs.map fun kv => (kV kv.1,kv.2)) ws → ∃ rs,Carries (mixKind P w) ws rs ∧ KV kvs rs
 | [],_,r => by rw [List.map_nil] at r; cases r; exact ⟨[],True.intro,.nil⟩
 | p :: kvs,_,r => by
  rw [List.map_cons] at r
  cases r with
  | @cons a b as bs h t =>
   obtain ⟨rs,c,q⟩ := carries_of (P := P) (w := w) t
   obtain ⟨b1,b2⟩ := b
   exact ⟨(p.1,b2) :: rs,⟨kV_is h.1,rfl,c⟩,.cons ⟨rfl,h.2⟩ q⟩
def tDisp (trs : List (TE × TE)) : TE := fun σ H Q => ∀ p,H p = none → tPairs trs σ (upd H p (.dK [])) fun ps H2 => H2 p = some (.dK []) ∧ ∃ kvs : List (Key × V),ps = kvs.map (fun kv => (kV kv.1,kv.2)) ∧ kvs.length ≤ 15 ∧ Q (.ref p) (upd H2 p (.dK (mergeK [] kvs)))
theorem pe_disp {X : Cx} {pos : Pos} {keys : List (Option Expr)} {values : List Expr} {trs : List (TE × TE)} (h : PPs X pos keys values trs) (hall : keys.all (·.isSome) = true) (hl : keys.length = values.length) (h0 : keys ≠ [])
  (h15 : keys.length ≤ 15) : PE X (.Dict keys values pos) (tDisp trs) := by
 intro pins s σ H Q I q
 have hn := I.hok.fresh (Nat.le_refl s.heap.objs.size)
 have I1 := I.laid (a := s.heap.objs.size) (o := .dK []) (h' := s.heap.push { cls := .type "dict", data := .dict #[] }) (t' := s.toks) (fun _ _ q => Heap.get?_push_of_some _ q) (Nat.le_refl _) (dk_empty s.heap I.big)
 refine wpAny_Dict_walk (knd := mixKind X.prog X.w) hall hl h0 h15 (thn (h pins _ σ _ _ I1 (q _ hn)) fun ws s2 ⟨ps,H2,I2,rel,e,kvs,ep,lk,q2⟩ => ?_)
 subst ep
 obtain ⟨rs,c,rk⟩ := carries_of (P := X.prog) (w := X.w) rel
 obtain ⟨z,hd,vs0,r0,dd⟩ := dk_of I2.hok e
 cases r0
 refine ⟨rs,c,dd,fun h' dd' hs => ⟨.ref s.heap.objs.size,_,?_,rfl,q2⟩⟩
 have hz : (mergeK [] kvs).length ≤ sizeLine := by
  have h1 := length_mergeK kvs []
  rw [List.length_nil] at h1
  rw [sizeLine_eq]; omega
 have he : ∃ q,h'.get? s.heap.objs.size = some q := let ⟨q,_,_,hq,_⟩ := dd'; ⟨q,hq⟩
 exact d_write I2 (by rw [e]; exact True.intro) hs he (dk_new hz hd (rk.merge .nil) dd')
section
variable {X : Cx} {pins : List (Addr × Obj)} {σ : St} {H : Hp} {s : Shared} {a : Addr} {y d : V} {u r : Value} {o : Option V} {A : Around} {E : Value → Shared → Prop}
end
section
variable {X : Cx} {o e f : Expr} {apos cpos : Pos} {td ty tx : TE}
end
section
variable {X : Cx} {pins : List (Addr × Obj)} {σ : St} {H : Hp} {s : Shared} {a : Addr} {kvs : List (Key × V)} {A : Around} {E : Value → Shared → Prop}
end
section
variable {X : Cx} {pins : List (Addr × Obj)} {σ : St} {H : Hp} {s : Shared} {a : Addr} {y : V} {u : Value} {A : Around} {E : Value → Shared → Prop}
end
end L2
namespace Dm
inductive Dat where
 | non
 | bl (b : Bool)
 | int (i : Int)
 | str (s : List Nat)
 | tup (xs : List Dat)
 | lst (xs : List Dat)
 | dct (ks : List Int) (vs : List Dat)
 | exc (C : Nat)
 | fn (a : Nat)
deriving Inhabited
inductive Cell where
 | un
 | sh (d : Dat)
 | ow (d : Dat)
deriving Inhabited
abbrev Env := List Cell
inductive Val where
 | val (d : Dat)
 | slot (i : Nat)
 | new (d : Dat)
inductive RV where
 | val (d : Dat)
 | new (d : Dat)
def RV.dat : RV → Dat
 | .val d => d
 | .new d => d
def RV.toVal : RV → Val
 | .val d => .val d
 | .new d => .new d
def SZ : Nat := 100000
def isBox : Dat → Bool
 | .tup _ => true
 | .lst _ => true
 | .dct _ _ => true
 | .exc _ => true
 | _ => false
def pk (ρ : Env) : Val → Option Dat
 | .val d => some d
 | .new d => some d
 | .slot i => match ρ[i]? with
  | some (.ow d) => some d
  | some (.sh d) => some d
  | _ => none
def tk (ρ : Env) : Val → Option (Dat × Env)
 | .val d => some (d,ρ)
 | .new d => some (d,ρ)
 | .slot i => match ρ[i]? with
  | some (.ow d) => some (d,ρ.set i (.sh d))
  | some (.sh d) => some (d,ρ)
  | _ => none
def pks (ρ : Env) : List Val → Option (List Dat)
 | [] => some []
 | x :: r => match pk ρ x with
  | none => none
  | some d => match pks ρ r with
   | none => none
   | some ds => some (d :: ds)
def tks (ρ : Env) : List Val → Option (List Dat × Env)
 | [] => some ([],ρ)
 | x :: r => match tk ρ x with
  | none => none
  | some (d,ρ1) => match tks ρ1 r with
   | none => none
   | some (ds,ρ2) => some (d :: ds,ρ2)
abbrev FE := Env → Option (Val × Env)
abbrev FT := Env → Option (Bool × Env)
def eC (d : Dat) : FE := fun ρ => some (.val d,ρ)
def eV (i : Nat) : FE := fun ρ => match ρ[i]? with
 | some (.sh d) => some (.val d,ρ)
 | some (.ow _) => some (.slot i,ρ)
 | _ => none
def e1 (g : Dat → Option RV) (a : FE) : FE := fun ρ => match a ρ with
 | none => none
 | some (x,ρ1) => match pk ρ1 x with
  | none => none
  | some d => match g d with
   | none => none
   | some v => some (v.toVal,ρ1)
def e2 (g : Dat → Dat → Option RV) (a b : FE) : FE := fun ρ => match a ρ with
 | none => none
 | some (x,ρ1) => match b ρ1 with
  | none => none
  | some (y,ρ2) => match pk ρ2 x with
   | none => none
   | some d => match pk ρ2 y with
    | none => none
    | some e => match g d e with
     | none => none
     | some v => some (v.toVal,ρ2)
def eAs : List FE → Env → Option (List Val × Env)
 | [],ρ => some ([],ρ)
 | a :: r,ρ => match a ρ with
  | none => none
  | some (x,ρ1) => match eAs r ρ1 with
   | none => none
   | some (xs,ρ2) => some (x :: xs,ρ2)
def eB (g : List Dat → Option RV) (as : List FE) : FE := fun ρ => match eAs as ρ with
 | none => none
 | some (xs,ρ1) => match pks ρ1 xs with
  | none => none
  | some ds => match g ds with
   | none => none
   | some v => some (v.toVal,ρ1)
def eTup (as : List FE) : FE := fun ρ => match eAs as ρ with
 | none => none
 | some (xs,ρ1) => match tks ρ1 xs with
  | none => none
  | some (ds,ρ2) => if ds.length ≤ SZ then some (.val (.tup ds),ρ2) else none
def eLst (as : List FE) : FE := fun ρ => match eAs as ρ with
 | none => none
 | some (xs,ρ1) => match tks ρ1 xs with
  | none => none
  | some (ds,ρ2) => if ds.length ≤ SZ then some (.new (.lst ds),ρ2) else none
def eF (f : List Dat → Option RV) (as : List FE) : FE := fun ρ => match eAs as ρ with
 | none => none
 | some (xs,ρ1) => match pks ρ1 xs with
  | none => none
  | some ds => match f ds with
   | none => none
   | some v => if isBox v.dat then (match tks ρ1 xs with
     | none => none
     | some (_,ρ2) => some (v.toVal,ρ2)) else some (v.toVal,ρ1)
def eIf (t : FT) (a b : FE) : FE := fun ρ => match t ρ with
 | none => none
 | some (true,ρ1) => a ρ1
 | some (false,ρ1) => b ρ1
def eAnd (a b : FE) : FE := fun ρ => match a ρ with
 | some (.val (.bl true),ρ1) => b ρ1
 | some (.val (.bl false),ρ1) => some (.val (.bl false),ρ1)
 | _ => none
def eNot (a : FE) : FE := fun ρ => match a ρ with
 | some (.val (.bl c),ρ1) => some (.val (.bl (!c)),ρ1)
 | _ => none
def tV (a : FE) : FT := fun ρ => match a ρ with
 | some (.val (.bl c),ρ1) => some (c,ρ1)
 | _ => none
def tNot (t : FT) : FT := fun ρ => match t ρ with
 | some (c,ρ1) => some (!c,ρ1)
 | none => none
def tAnd (t u : FT) : FT := fun ρ => match t ρ with
 | some (true,ρ1) => u ρ1
 | some (false,ρ1) => some (false,ρ1)
 | none => none
def tOr (t u : FT) : FT := fun ρ => match t ρ with
 | some (true,ρ1) => some (true,ρ1)
 | some (false,ρ1) => u ρ1
 | none => none
def truth : Dat → Option Bool
 | .non => some false
 | .bl b => some b
 | .int i => some (i != 0)
 | .tup xs => some (!xs.isEmpty)
 | .lst xs => some (!xs.isEmpty)
 | _ => none
def tTr (a : FE) : FT := fun ρ => match a ρ with
 | none => none
 | some (x,ρ1) => match pk ρ1 x with
  | none => none
  | some d => match truth d with
   | none => none
   | some c => some (c,ρ1)
def tTrue : FT := fun ρ => some (true,ρ)
abbrev FI := Env → Option (List Dat × Env)
def iL (a : FE) : FI := fun ρ => match a ρ with
 | none => none
 | some (x,ρ1) => match tk ρ1 x with
  | some (.lst ds,ρ2) => some (ds,ρ2)
  | _ => none
def iT (a : FE) : FI := fun ρ => match a ρ with
 | none => none
 | some (x,ρ1) => match tk ρ1 x with
  | some (.tup ds,ρ2) => some (ds,ρ2)
  | _ => none
def iS (a : FE) : FI := fun ρ => match a ρ with
 | none => none
 | some (x,ρ1) => match tk ρ1 x with
  | some (.lst ds,ρ2) => some (ds,ρ2)
  | some (.tup ds,ρ2) => some (ds,ρ2)
  | _ => none
def ups (lo : Int) (n : Nat) : List Dat := (List.range n).map fun i => Dat.int (lo + (i : Nat))
def downs (hi : Int) (n : Nat) : List Dat := (List.range n).map fun i => Dat.int (hi - (i : Nat))
def BIG : Int := 1000000000
def iR1 (a : FE) : FI := fun ρ => match a ρ with
 | some (.val (.int j),ρ1) => if j ≤ BIG ∧ -BIG ≤ j then some (ups 0 j.toNat,ρ1) else none
 | _ => none
def iR2 (a b : FE) : FI := fun ρ => match a ρ with
 | some (.val (.int i),ρ1) => (match b ρ1 with
  | some (.val (.int j),ρ2) => if j ≤ BIG ∧ -BIG ≤ j ∧ i ≤ BIG ∧ -BIG ≤ i then some (ups i (j - i).toNat,ρ2) else none
  | _ => none)
 | _ => none
abbrev FB := Dat → Env → Option Env
def bN (i : Nat) : FB := fun d ρ => if i = 0 then none else some (ρ.set i (.sh d))
def sets : List Nat → List Dat → Env → Option Env
 | [],[],ρ => some ρ
 | i :: is,d :: ds,ρ => if i = 0 then none else sets is ds (ρ.set i (.sh d))
 | _,_,_ => none
def bT (is : List Nat) : FB := fun d ρ => match d with
 | .tup ds => sets is ds ρ
 | _ => none
def compD (bd : FB) (t : FT) (el : FE) : List Dat → Env → List Dat → Option (List Dat × Env)
 | [],ρ,acc => some (acc,ρ)
 | d :: r,ρ,acc => match bd d ρ with
  | none => none
  | some ρ1 => match t ρ1 with
   | none => none
   | some (false,ρ2) => compD bd t el r ρ2 acc
   | some (true,ρ2) => match el ρ2 with
    | none => none
    | some (x,ρ3) => match tk ρ3 x with
     | none => none
     | some (y,ρ4) => compD bd t el r ρ4 (acc ++ [y])
def eComp (it : FI) (own : Nat) (bd : FB) (t : FT) (el : FE) : FE := fun ρ => match it ρ with
 | none => none
 | some (ds,ρ1) => if ds.length ≤ SZ then (match compD bd t el ds (ρ1 ++ List.replicate own .un) [] with
  | none => none
  | some (ys,ρ2) => some (.new (.lst ys),ρ2.take ρ1.length)) else none
inductive Out where
 | nx (ρ : Env)
 | ret (r : RV) (ρ : Env)
 | bk (ρ : Env)
 | ct (ρ : Env)
abbrev FS := Env → Option Out
def sNx : FS := fun ρ => some (.nx ρ)
def sSeq (s u : FS) : FS := fun ρ => match s ρ with
 | some (.nx ρ1) => u ρ1
 | o => o
def sA (i : Nat) (e : FE) : FS := fun ρ => if i = 0 then none else match e ρ with
 | none => none
 | some (.new d,ρ1) => some (.nx (ρ1.set i (.ow d)))
 | some (x,ρ1) => match tk ρ1 x with
  | none => none
  | some (d,ρ2) => some (.nx (ρ2.set i (.sh d)))
def sE (e : FE) : FS := fun ρ => match e ρ with
 | none => none
 | some (_,ρ1) => some (.nx ρ1)
def sR (e : FE) : FS := fun ρ => match e ρ with
 | none => none
 | some (.new d,ρ1) => some (.ret (.new d) ρ1)
 | some (.val d,ρ1) => some (.ret (.val d) ρ1)
 | some (.slot i,ρ1) => match ρ1[i]? with
  | some (.ow d) => some (.ret (.new d) (ρ1.set i .un))
  | some (.sh d) => some (.ret (.val d) ρ1)
  | _ => none
def sIf (t : FT) (a b : FS) : FS := fun ρ => match t ρ with
 | none => none
 | some (true,ρ1) => a ρ1
 | some (false,ρ1) => b ρ1
def sCt : FS := fun ρ => some (.ct ρ)
def sApp (i : Nat) (e : FE) : FS := fun ρ => match ρ[i]? with
 | some (.ow (.lst _)) => (match e ρ with
  | none => none
  | some (x,ρ1) => match tk ρ1 x with
   | none => none
   | some (d,ρ2) => match ρ2[i]? with
    | some (.ow (.lst ds)) => if ds.length < SZ then some (.nx (ρ2.set i (.ow (.lst (ds ++ [d]))))) else none
    | _ => none)
 | _ => none
def ixN (n : Nat) (i : Int) : Option Nat :=
 if 0 ≤ i then (if i < n then some i.toNat else none) else if -(n : Int) ≤ i then some (i + n).toNat else none
def sSet (i : Nat) (j e : FE) : FS := fun ρ => match e ρ with
 | none => none
 | some (x,ρ1) => match tk ρ1 x with
  | none => none
  | some (d,ρ2) => match ρ2[i]? with
   | some (.ow _) => (match j ρ2 with
    | some (.val (.int k),ρ3) => (match ρ3[i]? with
     | some (.ow (.lst ds)) => (match ixN ds.length k with
      | none => none
      | some m => some (.nx (ρ3.set i (.ow (.lst (ds.set m d))))))
     | _ => none)
    | _ => none)
   | _ => none
def forD (bd : FB) (body : FS) : List Dat → FS
 | [],ρ => some (.nx ρ)
 | d :: r,ρ => match bd d ρ with
  | none => none
  | some ρ1 => match body ρ1 with
   | some (.nx ρ2) => forD bd body r ρ2
   | some (.ct ρ2) => forD bd body r ρ2
   | some (.bk ρ2) => some (.nx ρ2)
   | some (.ret v ρ2) => some (.ret v ρ2)
   | none => none
def sFor (it : FI) (bd : FB) (body : FS) : FS := fun ρ => match it ρ with
 | none => none
 | some (ds,ρ1) => forD bd body ds ρ1
def whD (t : FT) (body : FS) : Nat → FS
 | 0,_ => none
 | n + 1,ρ => match t ρ with
  | none => none
  | some (false,ρ1) => some (.nx ρ1)
  | some (true,ρ1) => match body ρ1 with
   | some (.nx ρ2) => whD t body n ρ2
   | some (.ct ρ2) => whD t body n ρ2
   | some (.bk ρ2) => some (.nx ρ2)
   | some (.ret v ρ2) => some (.ret v ρ2)
   | none => none
def fn (n m : Nat) (body : FS) (ds : List Dat) : Option RV := if ds.length = n then (match body (ds.map Cell.sh ++ List.replicate m .un) with
 | some (.ret r _) => some r
 | some (.nx _) => some (.val .non)
 | _ => none) else none
def b2i (b : Bool) : Int := if b then 1 else 0
mutual
def eqD : Dat → Dat → Bool
 | .non,.non => true
 | .bl a,.bl b => a == b
 | .bl a,.int j => b2i a == j
 | .int i,.bl b => i == b2i b
 | .int i,.int j => i == j
 | .str a,.str b => a == b
 | .tup xs,.tup ys => eqDs xs ys
 | .lst xs,.lst ys => eqDs xs ys
 | _,_ => false
def eqDs : List Dat → List Dat → Bool
 | [],[] => true
 | x :: xs,y :: ys => eqD x y && eqDs xs ys
 | _,_ => false
end
def okD : Nat → Dat → Bool
 | _,.dct _ _ => false
 | _,.exc _ => false
 | _,.fn _ => false
 | _,.str s => s.all fun c => decide (c < 128)
 | 0,.tup _ => false
 | 0,.lst _ => false
 | n + 1,.tup xs => xs.all (okD n)
 | n + 1,.lst xs => xs.all (okD n)
 | _,_ => true
abbrev vB (b : Bool) : Option RV := some (.val (.bl b))
def gIsi (p : Dat → Bool) : Dat → Option RV
 | .exc _ => none
 | .fn _ => none
 | d => vB (p d)
abbrev vI (i : Int) : Option RV := some (.val (.int i))
def gEq (x y : Dat) : Option RV := if okD 8 x && okD 8 y then vB (eqD x y) else none
def gNe (x y : Dat) : Option RV := if okD 8 x && okD 8 y then vB (!eqD x y) else none
def gLt : Dat → Dat → Option RV
 | .int i,.int j => vB (decide (i < j))
 | _,_ => none
def gLe : Dat → Dat → Option RV
 | .int i,.int j => vB (decide (i ≤ j))
 | _,_ => none
def gGt : Dat → Dat → Option RV
 | .int i,.int j => vB (decide (j < i))
 | _,_ => none
def gGe : Dat → Dat → Option RV
 | .int i,.int j => vB (decide (j ≤ i))
 | _,_ => none
def B64 : Int := 18446744073709551616
def gAdd : Dat → Dat → Option RV
 | .int i,.int j => vI (i + j)
 | .lst xs,.lst ys => if xs.length + ys.length ≤ SZ then some (.new (.lst (xs ++ ys))) else none
 | _,_ => none
def gSub : Dat → Dat → Option RV
 | .int i,.int j => vI (i - j)
 | _,_ => none
def gMul : Dat → Dat → Option RV
 | .int i,.int j => if (-B64 < i ∧ i < B64) ∨ (-B64 < j ∧ j < B64) then vI (i * j) else none
 | .lst xs,.int k => if k ≤ BIG ∧ -BIG ≤ k ∧ xs.length * k.toNat ≤ SZ then some (.new (.lst (List.replicate k.toNat xs).flatten)) else none
 | _,_ => none
def B200 : Int := 1606938044258990275541962092341162602522202993782792835301376
def gDiv : Dat → Dat → Option RV
 | .int i,.int j => if 0 < j ∧ j < B200 then vI (i / j) else none
 | _,_ => none
def gMod : Dat → Dat → Option RV
 | .int i,.int j => if 0 < j then vI (i % j) else none
 | _,_ => none
def gPow : Dat → Dat → Option RV
 | .int i,.int j => if 0 ≤ j ∧ j ≤ 1000000 ∧ i.natAbs < 1000000 then vI (i ^ j.toNat) else none
 | _,_ => none
def gNeg : Dat → Option RV
 | .int i => vI (-i)
 | _ => none
def atI (xs : List Dat) (i : Int) : Option Dat := (ixN xs.length i).bind fun j => xs[j]?
def gIx : Dat → Dat → Option RV
 | .lst xs,.int i => (atI xs i).map .val
 | .tup xs,.int i => (atI xs i).map .val
 | _,_ => none
def inD (x : Dat) (xs : List Dat) : Bool := xs.any fun y => eqD y x
def gIn : Dat → Dat → Option RV
 | x,.lst xs => if okD 8 x && xs.all (okD 7) then vB (inD x xs) else none
 | x,.tup xs => if okD 8 x && xs.all (okD 7) then vB (inD x xs) else none
 | _,_ => none
def sIx (n d : Nat) : Option Int → Nat
 | none => d
 | some v => (if v < 0 then max (v + n) 0 else min v n).toNat
def cut (xs : List Dat) (lo hi : Option Int) : List Dat := (xs.drop (sIx xs.length 0 lo)).take (sIx xs.length xs.length hi - sIx xs.length 0 lo)
def gLen : List Dat → Option RV
 | [.lst xs] => vI xs.length
 | [.tup xs] => vI xs.length
 | _ => none
def gMin2 : List Dat → Option RV
 | [.int i,.int j] => vI (if j < i then j else i)
 | _ => none
def gMax2 : List Dat → Option RV
 | [.int i,.int j] => vI (if j > i then j else i)
 | _ => none
def gList : List Dat → Option RV
 | [.lst xs] => some (.new (.lst xs))
 | [.tup xs] => some (.new (.lst xs))
 | _ => none
def gTuple : List Dat → Option RV
 | [.lst xs] => some (.val (.tup xs))
 | [.tup xs] => some (.val (.tup xs))
 | _ => none
def isI : Dat → Bool
 | .int _ => true
 | .bl _ => true
 | _ => false
def isB : Dat → Bool
 | .bl _ => true
 | _ => false
def isL : Dat → Bool
 | .lst _ => true
 | _ => false
def isT : Dat → Bool
 | .tup _ => true
 | _ => false
def bools : List Dat → Option (List Bool)
 | [] => some []
 | .bl b :: r => (bools r).map fun bs => b :: bs
 | _ => none
def gAll : List Dat → Option RV
 | [.lst xs] => (match bools xs with
  | some bs => vB (bs.all id)
  | none => none)
 | _ => none
def eChain (g h : Dat → Dat → Option RV) (a b c : FE) : FE := fun ρ => match a ρ with
 | none => none
 | some (x,ρ1) => match b ρ1 with
  | none => none
  | some (y,ρ2) => match pk ρ2 x with
   | none => none
   | some d => match pk ρ2 y with
    | none => none
    | some e => match g d e with
     | some (.val (.bl true)) => (match c ρ2 with
      | none => none
      | some (z,ρ3) => match pk ρ3 y with
       | none => none
       | some e' => match pk ρ3 z with
        | none => none
        | some f => match h e' f with
         | none => none
         | some v => some (v.toVal,ρ3))
     | some (.val (.bl false)) => some (.val (.bl false),ρ2)
     | _ => none
def part : Option FE → Env → Option (Option Int × Env)
 | none,ρ => some (none,ρ)
 | some f,ρ => match f ρ with
  | some (.val (.int i),ρ1) => some (some i,ρ1)
  | _ => none
def eSl (a : FE) (lo hi : Option FE) : FE := fun ρ => match a ρ with
 | none => none
 | some (x,ρ1) => match part lo ρ1 with
  | none => none
  | some (l,ρ2) => match part hi ρ2 with
   | none => none
   | some (h,ρ3) => match pk ρ3 x with
    | some (.lst xs) => some (.new (.lst (cut xs l h)),ρ3)
    | _ => none
end Dm
namespace Br
open PySem L2
mutual
inductive Rep (H : Hp) : V → Dm.Dat → Prop
 | non : Rep H V.non Dm.Dat.non
 | bl (b : Bool) : Rep H (V.bl b) (Dm.Dat.bl b)
 | int (i : Int) : Rep H (V.int i) (Dm.Dat.int i)
 | str (s : List Nat) : Rep H (V.str ⟨s.toArray⟩) (Dm.Dat.str s)
 | tup {a : Addr} {xs : List V} {ds : List Dm.Dat} : H a = some (.tup xs) → Reps H xs ds → Rep H (V.ref a) (Dm.Dat.tup ds)
 | lst {a : Addr} {xs : List V} {ds : List Dm.Dat} : Rd H a (.lst xs) → Reps H xs ds → Rep H (V.ref a) (Dm.Dat.lst ds)
 | dct {a : Addr} {kvs : List (Key × V)} {ks : List Int} {ds : List Dm.Dat} : H a = some (.dK kvs) → kvs.map (·.1) = ks.map Sum.inl → Reps H (kvs.map (·.2)) ds → Rep H (V.ref a) (Dm.Dat.dct ks ds)
 | exc {a : Addr} {C : Nat} : H a = some (.ext fun h => ∃ o,h.get? a = some o ∧ o.cls = .ref C) → Rep H (V.ref a) (Dm.Dat.exc C)
 | fn (a : Addr) : Rep H (V.ref a) (Dm.Dat.fn a)
inductive Reps (H : Hp) : List V → List Dm.Dat → Prop
 | nil : Reps H [] []
 | cons {v : V} {d : Dm.Dat} {vs : List V} {ds : List Dm.Dat} : Rep H v d → Reps H vs ds → Reps H (v :: vs) (d :: ds)
end
theorem Same.rd {H H' : Hp} (s : Same H H') {a : Addr} {u : HO} (h : Rd H a u) : Rd H' a u := by
 rcases h with h | ⟨o,h⟩
 ·exact .inl (s _ _ h)
 ·exact .inr ⟨o,s _ _ h⟩
mutual
theorem Rep.mono {H H' : Hp} (s : Same H H') : ∀ {v : V} {d : Dm.Dat},Rep H v d → Rep H' v d
 | _,_,.non => .non
 | _,_,.bl b => .bl b
 | _,_,.int i => .int i
 | _,_,.str x => .str x
 | _,_,.tup h r => .tup (s _ _ h) (Reps.mono s r)
 | _,_,.lst h r => .lst (Same.rd s h) (Reps.mono s r)
 | _,_,.dct h e r => .dct (s _ _ h) e (Reps.mono s r)
 | _,_,.exc h => .exc (s _ _ h)
 | _,_,.fn a => .fn a
theorem Reps.mono {H H' : Hp} (s : Same H H') : ∀ {vs : List V} {ds : List Dm.Dat},Reps H vs ds → Reps H' vs ds
 | _,_,.nil => .nil
 | _,_,.cons h r => .cons (Rep.mono s h) (Reps.mono s r)
end
theorem Reps.length {H : Hp} : ∀ {vs : List V} {ds : List Dm.Dat},Reps H vs ds → vs.length = ds.length
 | _,_,.nil => rfl
 | _,_,.cons _ r => by simp [Reps.length r]
theorem Reps.get {H : Hp} : ∀ {vs : List V} {ds : List Dm.Dat} {i : Nat} {d : Dm.Dat},Reps H vs ds → ds[i]? = some d → ∃ v,vs[i]? = some v ∧ Rep H v d
 | _,_,_,_,.nil,e => by simp at e
 | _,_,0,_,.cons h _,e => by simp at e; subst e; exact ⟨_,rfl,h⟩
 | _,_,i + 1,_,.cons _ r,e => by
  obtain ⟨v,h1,h2⟩ := Reps.get (i := i) r (by simpa using e)
  exact ⟨v,by simpa using h1,h2⟩
theorem Reps.append {H : Hp} : ∀ {vs ws : List V} {ds es : List Dm.Dat},Reps H vs ds → Reps H ws es → Reps H (vs ++ ws) (ds ++ es)
 | _,_,_,_,.nil,s => s
 | _,_,_,_,.cons h r,s => .cons h (Reps.append r s)
theorem Reps.take {H : Hp} : ∀ {vs : List V} {ds : List Dm.Dat} (n : Nat),Reps H vs ds → Reps H (vs.take n) (ds.take n)
 | _,_,0,_ => by simpa using Reps.nil
 | _,_,_ + 1,.nil => by simpa using Reps.nil
 | _,_,n + 1,.cons h r => by simpa using Reps.cons h (Reps.take n r)
theorem Reps.drop {H : Hp} : ∀ {vs : List V} {ds : List Dm.Dat} (n : Nat),Reps H vs ds → Reps H (vs.drop n) (ds.drop n)
 | _,_,0,r => by simpa using r
 | _,_,_ + 1,.nil => by simpa using Reps.nil
 | _,_,n + 1,.cons _ r => by simpa using Reps.drop n r
theorem Reps.set {H : Hp} {v : V} {d : Dm.Dat} (h : Rep H v d) : ∀ {vs : List V} {ds : List Dm.Dat} (i : Nat),Reps H vs ds → Reps H (vs.set i v) (ds.set i d)
 | _,_,_,.nil => .nil
 | _,_,0,.cons _ r => .cons h r
 | _,_,i + 1,.cons q r => .cons q (Reps.set h i r)
theorem Reps.rep {H : Hp} {vs : List V} {ds : List Dm.Dat} (r : Reps H vs ds) : ∀ k : Nat,Reps H (List.replicate k vs).flatten (List.replicate k ds).flatten
 | 0 => by simpa using Reps.nil
 | k + 1 => by
  rw [List.replicate_succ,List.replicate_succ,List.flatten_cons,List.flatten_cons]
  exact Reps.append r (Reps.rep r k)
def Own (H0 H : Hp) (a : Addr) : Dm.Dat → Prop
 | .lst ds => ∃ xs,H a = some (.lst xs) ∧ Reps H0 xs ds
 | .dct ks ds => ∃ kvs : List (Key × V),H a = some (.dK kvs) ∧ kvs.map (·.1) = ks.map Sum.inl ∧ Reps H0 (kvs.map (·.2)) ds
 | _ => False
theorem Own.some {H0 H : Hp} {a : Addr} {d : Dm.Dat} (h : Own H0 H a d) : ∃ o,H a = some o := by
 cases d with
 | lst ds => obtain ⟨xs,e,_⟩ := h; exact ⟨_,e⟩
 | dct ks ds => obtain ⟨xs,e,_⟩ := h; exact ⟨_,e⟩
 | _ => exact False.elim h
theorem Own.mono {H0 H H0' H' : Hp} {a : Addr} {d : Dm.Dat} (h : Own H0 H a d) (s : Same H0 H0') (e : H' a = H a) : Own H0' H' a d := by
 cases d with
 | lst ds => obtain ⟨xs,q,r⟩ := h; exact ⟨xs,by rw [e]; exact q,r.mono s⟩
 | dct ks ds => obtain ⟨xs,q,k,r⟩ := h; exact ⟨xs,by rw [e]; exact q,k,r.mono s⟩
 | _ => exact False.elim h
def RepO (H0 H : Hp) (v : V) (d : Dm.Dat) : Prop := Rep H0 v d ∨ ∃ a,v = V.ref a ∧ Own H0 H a d
inductive RepOs (H0 H : Hp) : List V → List Dm.Dat → Prop
 | nil : RepOs H0 H [] []
 | cons {v : V} {d : Dm.Dat} {vs : List V} {ds : List Dm.Dat} : RepO H0 H v d → RepOs H0 H vs ds → RepOs H0 H (v :: vs) (d :: ds)
def shr (H0 H : Hp) (a : Addr) : Hp := fun b => if b = a then H a else H0 b
theorem shr_self {H0 H : Hp} {a : Addr} : shr H0 H a a = H a := by unfold shr; rw [if_pos rfl]
theorem shr_ne {H0 H : Hp} {a b : Addr} (h : b ≠ a) : shr H0 H a b = H0 b := by unfold shr; rw [if_neg h]
theorem shr_same {H0 H : Hp} {a : Addr} (h : H0 a = none) : Same H0 (shr H0 H a) := fun b o e => by
 by_cases q : b = a
 ·subst q; rw [h] at e; cases e
 ·rw [shr_ne q]; exact e
theorem shr_sub {H0 H : Hp} {a : Addr} (s : Same H0 H) : Same (shr H0 H a) H := fun b o e => by
 by_cases q : b = a
 ·subst q; rw [shr_self] at e; exact e
 ·rw [shr_ne q] at e; exact s _ _ e
theorem Own.rep {H0 H : Hp} {a : Addr} {d : Dm.Dat} (h : Own H0 H a d) (n : H0 a = none) : Rep (shr H0 H a) (V.ref a) d := by
 cases d with
 | lst ds => obtain ⟨xs,q,r⟩ := h; exact .lst (.inl (by rw [shr_self]; exact q)) (r.mono (shr_same n))
 | dct ks ds => obtain ⟨xs,q,k,r⟩ := h; exact .dct (by rw [shr_self]; exact q) k (r.mono (shr_same n))
 | _ => exact False.elim h
def Owned (σ : St) (ρ : Dm.Env) (a : Addr) : Prop := ∃ (i : Nat) (d : Dm.Dat),ρ[i]? = some (Dm.Cell.ow d) ∧ σ[i]? = some (some (V.ref a))
abbrev Def (_ : Dm.Env) (_ : Nat) : Prop := True
structure RepSt (H0 H : Hp) (σ : St) (ρ : Dm.Env) : Prop where
 same : Same H0 H
 len : σ.length = ρ.length
 sh : ∀ (i : Nat) (d : Dm.Dat),ρ[i]? = some (Dm.Cell.sh d) → ∃ v,σ[i]? = some (some v) ∧ Rep H0 v d
 ow : ∀ (i : Nat) (d : Dm.Dat),ρ[i]? = some (Dm.Cell.ow d) → ∃ a,σ[i]? = some (some (V.ref a)) ∧ H0 a = none ∧ Own H0 H a d
 dis : ∀ (i j : Nat) (d e : Dm.Dat) (a : Addr),ρ[i]? = some (Dm.Cell.ow d) → ρ[j]? = some (Dm.Cell.ow e) → σ[i]? = some (some (V.ref a)) → σ[j]? = some (some (V.ref a)) → i = j
structure Stp (O : Addr → Prop) (H0 H H0' H' : Hp) : Prop where
 s0 : Same H0 H0'
 s1 : ∀ a o,H a = some o → ¬ O a → H' a = some o
 s2 : ∀ a o,H0' a = some o → H a = none ∨ H0 a = some o ∨ O a
 s3 : ∀ a o,H a = some o → ∃ o',H' a = some o'
theorem Stp.refl (O : Addr → Prop) (H0 H : Hp) : Stp O H0 H H0 H := ⟨Same.refl _,fun _ _ e _ => e,fun _ _ e => .inr (.inl e),fun _ o e => ⟨o,e⟩⟩
theorem Stp.gone {O : Addr → Prop} {H0 H H0' H' : Hp} (t : Stp O H0 H H0' H') {a : Addr} (h : H' a = none) : H a = none := by
 cases q : H a with
 | none => rfl
 | some o => obtain ⟨o',e⟩ := t.s3 a o q; rw [h] at e; cases e
theorem Stp.trans {O1 O2 : Addr → Prop} {H0 H H1 H' H2 H'' : Hp} (t : Stp O1 H0 H H1 H') (u : Stp O2 H1 H' H2 H'') (k : ∀ a,O2 a → O1 a ∨ H a = none) : Stp O1 H0 H H2 H'' where
 s0 := t.s0.trans u.s0
 s1 := fun a o e n => u.s1 a o (t.s1 a o e n) fun z => (k a z).elim n fun q => by rw [q] at e; cases e
 s2 := fun a o e => by
  rcases u.s2 a o e with q | q | q
  ·exact .inl (t.gone q)
  ·exact t.s2 a o q
  ·rcases k a q with z | z
   ·exact .inr (.inr z)
   ·exact .inl z
 s3 := fun a o e => by
  obtain ⟨o',e'⟩ := t.s3 a o e
  exact u.s3 a o' e'
theorem Stp.wide {O O' : Addr → Prop} {H0 H H0' H' : Hp} (t : Stp O H0 H H0' H') (k : ∀ a,O a → O' a) : Stp O' H0 H H0' H' :=
 ⟨t.s0,fun a o e n => t.s1 a o e fun z => n (k a z),fun a o e => (t.s2 a o e).imp id (Or.imp id (k a)),t.s3⟩
structure Grow (H0 H H0' H' : Hp) : Prop where
 s0 : Same H0 H0'
 s1 : Same H H'
 s2 : ∀ a o,H0' a = some o → H a = none ∨ H0 a = some o
 s3 : Same H0' H'
theorem Grow.refl {H0 H : Hp} (s : Same H0 H) : Grow H0 H H0 H := ⟨Same.refl _,Same.refl _,fun _ _ e => .inr e,s⟩
theorem Grow.stp {H0 H H0' H' : Hp} (g : Grow H0 H H0' H') (O : Addr → Prop) : Stp O H0 H H0' H' :=
 ⟨g.s0,fun a o e _ => g.s1 a o e,fun a o e => (g.s2 a o e).imp id .inl,fun a o e => ⟨o,g.s1 a o e⟩⟩
theorem Grow.trans {H0 H H1 H' H2 H'' : Hp} (t : Grow H0 H H1 H') (u : Grow H1 H' H2 H'') : Grow H0 H H2 H'' where
 s0 := t.s0.trans u.s0
 s1 := t.s1.trans u.s1
 s2 := fun a o e => by
  rcases u.s2 a o e with q | q
  ·exact .inl (t.s1.free q)
  ·exact t.s2 a o q
 s3 := u.s3
theorem Grow.newS {H0 H : Hp} (s : Same H0 H) {p : Addr} {o : HO} (n : H p = none) : Grow H0 H (upd H0 p o) (upd H p o) where
 s0 := fun b u e => by rw [upd_ne (ne_of_none e (s.free n))]; exact e
 s1 := fun b u e => by rw [upd_ne (ne_of_none e n)]; exact e
 s2 := fun b u e => by
  by_cases q : b = p
  ·subst q; exact .inl n
  ·rw [upd_ne q] at e; exact .inr e
 s3 := fun b u e => by
  by_cases q : b = p
  ·subst q; rw [upd_same] at e ⊢; exact e
  ·rw [upd_ne q] at e ⊢; exact s _ _ e
theorem Grow.newO {H0 H : Hp} (s : Same H0 H) {p : Addr} {o : HO} (n : H p = none) : Grow H0 H H0 (upd H p o) where
 s0 := Same.refl _
 s1 := fun b u e => by rw [upd_ne (ne_of_none e n)]; exact e
 s2 := fun b u e => .inr e
 s3 := fun b u e => by rw [upd_ne (ne_of_none (s _ _ e) n)]; exact s _ _ e
def RepV (Hs H0 H : Hp) (σ : St) (ρ : Dm.Env) (v : V) : Dm.Val → Prop
 | .val d => Rep H0 v d
 | .slot i => σ[i]? = some (some v) ∧ Def ρ i
 | .new d => ∃ a,v = V.ref a ∧ Hs a = none ∧ ¬ Owned σ ρ a ∧ H0 a = none ∧ Own H0 H a d
structure ESt (σ : St) (ρ : Dm.Env) (H0 H : Hp) (ρ' : Dm.Env) (H0' H' : Hp) : Prop where
 st : RepSt H0' H' σ ρ'
 stp : Stp (Owned σ ρ) H0 H H0' H'
 own : ∀ a,Owned σ ρ' a → Owned σ ρ a
 dfn : ∀ i,Def ρ i → Def ρ' i
theorem ESt.refl {σ : St} {ρ : Dm.Env} {H0 H : Hp} (st : RepSt H0 H σ ρ) : ESt σ ρ H0 H ρ H0 H := ⟨st,Stp.refl _ _ _,fun _ z => z,fun _ z => z⟩
theorem ESt.trans {σ : St} {ρ ρ1 ρ2 : Dm.Env} {H0 H H1 H' H2 H'' : Hp} (t : ESt σ ρ H0 H ρ1 H1 H') (u : ESt σ ρ1 H1 H' ρ2 H2 H'') : ESt σ ρ H0 H ρ2 H2 H'' :=
 ⟨u.st,t.stp.trans u.stp fun a z => .inl (t.own a z),fun a z => t.own a (u.own a z),fun i z => u.dfn i (t.dfn i z)⟩
theorem RepSt.grow {σ : St} {ρ : Dm.Env} {H0 H H0' H' : Hp} (st : RepSt H0 H σ ρ) (g : Grow H0 H H0' H') : RepSt H0' H' σ ρ where
 same := g.s3
 len := st.len
 sh := fun i d e => by
  obtain ⟨v,q,r⟩ := st.sh i d e
  exact ⟨v,q,r.mono g.s0⟩
 ow := fun i d e => by
  obtain ⟨a,q,n,w⟩ := st.ow i d e
  obtain ⟨o,z⟩ := w.some
  refine ⟨a,q,?_,w.mono g.s0 ((g.s1 a o z).trans z.symm)⟩
  cases y : H0' a with
  | none => rfl
  | some u =>
   rcases g.s2 a u y with k | k
   ·rw [z] at k; cases k
   ·rw [n] at k; cases k
 dis := st.dis
theorem ESt.grow {σ : St} {ρ : Dm.Env} {H0 H H0' H' : Hp} (st : RepSt H0 H σ ρ) (g : Grow H0 H H0' H') : ESt σ ρ H0 H ρ H0' H' :=
 ⟨st.grow g,g.stp _,fun _ z => z,fun _ z => z⟩
theorem RepV.mono {Hs H0 H H0' H' : Hp} {σ : St} {ρ ρ' : Dm.Env} {v : V} {x : Dm.Val} (r : RepV Hs H0 H σ ρ v x) (t : ESt σ ρ H0 H ρ' H0' H') : RepV Hs H0' H' σ ρ' v x := by
 cases x with
 | val d => exact Rep.mono t.stp.s0 r
 | slot i => exact ⟨r.1,t.dfn i r.2⟩
 | new d =>
  obtain ⟨a,e,n,no,n0,w⟩ := r
  obtain ⟨o,z⟩ := w.some
  refine ⟨a,e,n,fun y => no (t.own a y),?_,w.mono t.stp.s0 ((t.stp.s1 a o z no).trans z.symm)⟩
  cases y : H0' a with
  | none => rfl
  | some u =>
   rcases t.stp.s2 a u y with k | k | k
   ·rw [z] at k; cases k
   ·rw [n0] at k; cases k
   ·exact absurd k no
theorem RepV.early {Hs Hs' H0 H : Hp} {σ : St} {ρ : Dm.Env} {v : V} {x : Dm.Val} (r : RepV Hs H0 H σ ρ v x) (k : ∀ a,Hs a = none → Hs' a = none) : RepV Hs' H0 H σ ρ v x := by
 cases x with
 | val d => exact r
 | slot i => exact r
 | new d => obtain ⟨a,e,n,z⟩ := r; exact ⟨a,e,k a n,z⟩
theorem RepV.look {Hs H0 H : Hp} {σ : St} {ρ : Dm.Env} {v : V} {x : Dm.Val} {d : Dm.Dat} (r : RepV Hs H0 H σ ρ v x) (st : RepSt H0 H σ ρ) (e : Dm.pk ρ x = some d) : RepO H0 H v d := by
 cases x with
 | val d' => cases e; exact .inl r
 | new d' =>
  cases e
  obtain ⟨a,e,_,_,_,w⟩ := r
  exact .inr ⟨a,e,w⟩
 | slot i =>
  obtain ⟨q,_⟩ := r
  unfold Dm.pk at e
  dsimp only at e
  split at e
  ·rename_i d' h
   cases e
   obtain ⟨a,z,_,w⟩ := st.ow i d h
   rw [q] at z
   cases z
   exact .inr ⟨a,rfl,w⟩
  ·rename_i d' h
   cases e
   obtain ⟨u,z,w⟩ := st.sh i d h
   rw [q] at z
   cases z
   exact .inl w
  ·cases e
def RepR (Hs H0 H : Hp) (v : V) : Dm.RV → Prop
 | .val d => Rep H0 v d
 | .new d => ∃ a,v = V.ref a ∧ Hs a = none ∧ H0 a = none ∧ Own H0 H a d
theorem RepR.toV {H H0' H' H0 : Hp} {σ : St} {ρ : Dm.Env} {v : V} {z : Dm.RV} (r : RepR H H0' H' v z) (st : RepSt H0 H σ ρ) : RepV H H0' H' σ ρ v z.toVal := by
 cases z with
 | val d => exact r
 | new d =>
  obtain ⟨a,e,n,n0,w⟩ := r
  refine ⟨a,e,n,fun ⟨i,d',h1,h2⟩ => ?_,n0,w⟩
  obtain ⟨a',q,_,w'⟩ := st.ow i d' h1
  rw [h2] at q
  cases q
  obtain ⟨o,z⟩ := w'.some
  rw [n] at z; cases z
def tD (f : Dm.FE) : TE := fun σ H Q => ∃ H0 ρ x ρ',RepSt H0 H σ ρ ∧ f ρ = some (x,ρ') ∧ ∀ v H0' H',ESt σ ρ H0 H ρ' H0' H' → RepV H H0' H' σ ρ' v x → Q v H'
def tDT (f : Dm.FT) : TT := fun σ H Q => ∃ H0 ρ b ρ',RepSt H0 H σ ρ ∧ f ρ = some (b,ρ') ∧ ∀ H0' H',ESt σ ρ H0 H ρ' H0' H' → Q b H'
inductive RepVs (Hs H0 H : Hp) (σ : St) (ρ : Dm.Env) : List V → List Dm.Val → Prop
 | nil : RepVs Hs H0 H σ ρ [] []
 | cons {v : V} {x : Dm.Val} {vs : List V} {xs : List Dm.Val} : RepV Hs H0 H σ ρ v x → RepVs Hs H0 H σ ρ vs xs → RepVs Hs H0 H σ ρ (v :: vs) (x :: xs)
def tDA (fs : List Dm.FE) : TA := fun σ H Q => ∃ H0 ρ xs ρ',RepSt H0 H σ ρ ∧ Dm.eAs fs ρ = some (xs,ρ') ∧ ∀ vs H0' H',ESt σ ρ H0 H ρ' H0' H' → RepVs H H0' H' σ ρ' vs xs → Q vs H'
abbrev DE (X : Cx) (e : Expr) (f : Dm.FE) : Prop := PE X e (tD f)
abbrev DT (X : Cx) (e : Expr) (f : Dm.FT) : Prop := PT X e (tDT f)
abbrev DA (X : Cx) (es : List Expr) (fs : List Dm.FE) : Prop := PA X es (tDA fs)
theorem PE.weak {X : Cx} {e : Expr} {t t' : TE} (h : PE X e t) (k : ∀ σ H Q,t' σ H Q → t σ H Q) : PE X e t' := fun pins s σ H Q I q => h pins s σ H Q I (k σ H Q q)
theorem PT.weak {X : Cx} {e : Expr} {t t' : TT} (h : PT X e t) (k : ∀ σ H Q,t' σ H Q → t σ H Q) : PT X e t' := fun pins s σ H Q I q => h pins s σ H Q I (k σ H Q q)
theorem PA.weak {X : Cx} {es : List Expr} {t t' : TA} (h : PA X es t) (k : ∀ σ H Q,t' σ H Q → t σ H Q) : PA X es t' := fun pos pins s σ H Q I q => h pos pins s σ H Q I (k σ H Q q)
theorem PS.weak {X : Cx} {st : Stmt} {t t' : TS} (h : PS X st t) (k : ∀ D σ H,t' D σ H → t D σ H) : PS X st t' := fun pins s σ H D I q => h pins s σ H D I (k D σ H q)
theorem PSs.weak {X : Cx} {st : List Stmt} {t t' : TS} (h : PSs X st t) (k : ∀ D σ H,t' D σ H → t D σ H) : PSs X st t' := fun pins s σ H D I q => h pins s σ H D I (k D σ H q)
theorem shr_same' {H0 H : Hp} {a : Addr} (s : Same H0 H) : Same H0 (shr H0 H a) := fun b o e => by
 by_cases q : b = a
 ·subst q; rw [shr_self]; exact s _ _ e
 ·rw [shr_ne q]; exact e
theorem Own.rep' {H0 H0c H : Hp} {a : Addr} {d : Dm.Dat} (h : Own H0 H a d) (b : Same H0 H0c) (s : Same H0c H) : Rep (shr H0c H a) (V.ref a) d := by
 cases d with
 | lst ds => obtain ⟨xs,q,r⟩ := h; exact .lst (.inl (by rw [shr_self]; exact q)) (r.mono (b.trans (shr_same' s)))
 | dct ks ds => obtain ⟨xs,q,k,r⟩ := h; exact .dct (by rw [shr_self]; exact q) k (r.mono (b.trans (shr_same' s)))
 | _ => exact False.elim h
theorem RepV.rho {Hs H0 H : Hp} {σ : St} {ρ ρ' : Dm.Env} {v : V} {x : Dm.Val} (r : RepV Hs H0 H σ ρ v x) (o : ∀ a,Owned σ ρ' a → Owned σ ρ a) (d : ∀ i,Def ρ i → Def ρ' i) : RepV Hs H0 H σ ρ' v x := by
 cases x with
 | val d => exact r
 | slot i => exact ⟨r.1,d i r.2⟩
 | new d => obtain ⟨a,e,n,no,z⟩ := r; exact ⟨a,e,n,fun y => no (o a y),z⟩
theorem RepVs.rho {Hs H0 H : Hp} {σ : St} {ρ ρ' : Dm.Env} (o : ∀ a,Owned σ ρ' a → Owned σ ρ a) (d : ∀ i,Def ρ i → Def ρ' i) : ∀ {vs : List V} {xs : List Dm.Val},RepVs Hs H0 H σ ρ vs xs → RepVs Hs H0 H σ ρ' vs xs
 | _,_,.nil => .nil
 | _,_,.cons h r => .cons (h.rho o d) (RepVs.rho o d r)
theorem RepVs.early {Hs Hs' H0 H : Hp} {σ : St} {ρ : Dm.Env} (k : ∀ a,Hs a = none → Hs' a = none) : ∀ {vs : List V} {xs : List Dm.Val},RepVs Hs H0 H σ ρ vs xs → RepVs Hs' H0 H σ ρ vs xs
 | _,_,.nil => .nil
 | _,_,.cons h r => .cons (h.early k) (RepVs.early k r)
theorem set_get {ρ : Dm.Env} {i j : Nat} {c d : Dm.Cell} (h : (ρ.set i c)[j]? = some d) : (j = i ∧ d = c) ∨ (j ≠ i ∧ ρ[j]? = some d) := by
 by_cases e : j = i
 ·subst e
  by_cases l : j < ρ.length
  ·rw [List.getElem?_set_self l] at h
   exact .inl ⟨rfl,(Option.some.inj h).symm⟩
  ·rw [List.getElem?_eq_none (by simpa using Nat.not_lt.mp l)] at h
   cases h
 ·rw [List.getElem?_set_ne (Ne.symm e)] at h
  exact .inr ⟨e,h⟩
theorem share_slot {H0 H : Hp} {σ : St} {ρ : Dm.Env} {i : Nat} {a : Addr} {d : Dm.Dat} (st : RepSt H0 H σ ρ) (e : ρ[i]? = some (.ow d)) (q : σ[i]? = some (some (V.ref a))) :
  RepSt (shr H0 H a) H σ (ρ.set i (.sh d)) ∧ (∀ b,Owned σ (ρ.set i (.sh d)) b → Owned σ ρ b) ∧ ∀ j,Def ρ j → Def (ρ.set i (.sh d)) j := by
 obtain ⟨a',q',n,w⟩ := st.ow i d e
 rw [q] at q'
 cases q'
 have hil : i < ρ.length := (List.getElem?_eq_some_iff.mp e).1
 refine ⟨⟨shr_sub st.same,by rw [List.length_set]; exact st.len,fun j d' h => ?_,fun j d' h => ?_,fun j k d1 d2 b h1 h2 h3 h4 => ?_⟩,fun b ⟨j,d',h1,h2⟩ => ?_,fun j h => ?_⟩
 ·rcases set_get h with ⟨rfl,z⟩ | ⟨_,h⟩
  ·cases z
   exact ⟨_,q,w.rep n⟩
  ·obtain ⟨v,z,r⟩ := st.sh j d' h
   exact ⟨v,z,r.mono (shr_same n)⟩
 ·rcases set_get h with ⟨_,z⟩ | ⟨hj,h⟩
  ·cases z
  ·obtain ⟨b,z,n',w'⟩ := st.ow j d' h
   have nb : b ≠ a := fun y => hj (st.dis j i d' d a h e (y ▸ z) q)
   exact ⟨b,z,by rw [shr_ne nb]; exact n',w'.mono (shr_same n) rfl⟩
 ·rcases set_get h1 with ⟨_,z⟩ | ⟨_,h1⟩
  ·cases z
  ·rcases set_get h2 with ⟨_,z⟩ | ⟨_,h2⟩
   ·cases z
   ·exact st.dis j k d1 d2 b h1 h2 h3 h4
 ·rcases set_get h1 with ⟨_,z⟩ | ⟨_,h1⟩
  ·cases z
  ·exact ⟨j,d',h1,h2⟩
 ·trivial
theorem share_new {H0 H : Hp} {σ : St} {ρ : Dm.Env} {a : Addr} (st : RepSt H0 H σ ρ) (no : ¬ Owned σ ρ a) : RepSt (shr H0 H a) H σ ρ where
 same := shr_sub st.same
 len := st.len
 sh := fun j d h => by
  obtain ⟨v,z,r⟩ := st.sh j d h
  exact ⟨v,z,r.mono (shr_same' st.same)⟩
 ow := fun j d h => by
  obtain ⟨b,z,n',w'⟩ := st.ow j d h
  have nb : b ≠ a := fun y => no ⟨j,d,h,y ▸ z⟩
  exact ⟨b,z,by rw [shr_ne nb]; exact n',w'.mono (shr_same' st.same) rfl⟩
 dis := st.dis
theorem take1 {Hs H0s H0 H0c H : Hp} {σ : St} {ρs ρ ρ' : Dm.Env} {v : V} {x : Dm.Val} {d : Dm.Dat} (t : ESt σ ρs H0s Hs ρ H0c H) (b : Same H0 H0c) (r : RepV Hs H0 H σ ρ v x) (e : Dm.tk ρ x = some (d,ρ')) :
  ∃ H0c',ESt σ ρs H0s Hs ρ' H0c' H ∧ Same H0c H0c' ∧ Rep H0c' v d ∧ (∀ a,Owned σ ρ' a → Owned σ ρ a) ∧ ∀ i,Def ρ i → Def ρ' i := by
 cases x with
 | val d' => cases e; exact ⟨H0c,t,Same.refl _,Rep.mono b r,fun _ z => z,fun _ z => z⟩
 | new d' =>
  cases e
  obtain ⟨a,e,n,no,n0,w⟩ := r
  subst e
  have ss := shr_same' (a := a) t.st.same
  refine ⟨shr H0c H a,⟨share_new t.st no,⟨t.stp.s0.trans ss,t.stp.s1,fun c o q => ?_,t.stp.s3⟩,t.own,t.dfn⟩,ss,w.rep' b t.st.same,fun _ z => z,fun _ z => z⟩
  by_cases y : c = a
  ·subst y; exact .inl n
  ·rw [shr_ne y] at q; exact t.stp.s2 c o q
 | slot i =>
  obtain ⟨q,_⟩ := r
  unfold Dm.tk at e
  dsimp only at e
  split at e
  ·rename_i d' h
   cases e
   obtain ⟨a,z,n,w⟩ := t.st.ow i _ h
   rw [q] at z
   cases z
   obtain ⟨s1,s2,s3⟩ := share_slot t.st h q
   have ss := shr_same' (a := a) t.st.same
   refine ⟨shr H0c H a,⟨s1,⟨t.stp.s0.trans ss,t.stp.s1,fun c o q' => ?_,t.stp.s3⟩,fun b z => t.own b (s2 b z),fun j z => s3 j (t.dfn j z)⟩,ss,w.rep' (Same.refl _) t.st.same,s2,s3⟩
   by_cases y : c = a
   ·subst y; exact .inr (.inr (t.own c ⟨i,_,h,q⟩))
   ·rw [shr_ne y] at q'; exact t.stp.s2 c o q'
  ·rename_i d' h
   cases e
   obtain ⟨u,z,w⟩ := t.st.sh i _ h
   rw [q] at z
   cases z
   exact ⟨H0c,t,Same.refl _,w,fun _ z => z,fun _ z => z⟩
  ·cases e
theorem takes {Hs H0s H0 H : Hp} {σ : St} {ρs : Dm.Env} : ∀ {xs : List Dm.Val} {vs : List V} {ρ ρ' : Dm.Env} {ds : List Dm.Dat} {H0c : Hp},ESt σ ρs H0s Hs ρ H0c H → Same H0 H0c → RepVs Hs H0 H σ ρ vs xs → Dm.tks ρ xs = some (ds,ρ') →
  ∃ H0c',ESt σ ρs H0s Hs ρ' H0c' H ∧ Same H0c H0c' ∧ Reps H0c' vs ds
 | [],_,ρ,ρ',ds,H0c,t,b,r,e => by
  cases r
  cases e
  exact ⟨H0c,t,Same.refl _,.nil⟩
 | x :: xs,_,ρ,ρ',ds,H0c,t,b,r,e => by
  cases r with
  | cons h r =>
   unfold Dm.tks at e
   split at e
   ·cases e
   ·rename_i d ρ1 e1
    split at e
    ·cases e
    ·rename_i ds' ρ2 e2
     cases e
     obtain ⟨H1,t1,b1,r1,o1,d1⟩ := take1 t b h e1
     obtain ⟨H2,t2,b2,r2⟩ := takes t1 (b.trans b1) (r.rho o1 d1) e2
     exact ⟨H2,t2,b1.trans b2,.cons (r1.mono b2) r2⟩
theorem pk_tk {ρ ρ' : Dm.Env} {x : Dm.Val} {d : Dm.Dat} (e : Dm.tk ρ x = some (d,ρ')) (y : Dm.Val) : Dm.pk ρ' y = Dm.pk ρ y := by
 cases x with
 | val d' => cases e; rfl
 | new d' => cases e; rfl
 | slot i =>
  unfold Dm.tk at e
  dsimp only at e
  split at e
  ·rename_i d' h
   cases e
   cases y with
   | val _ => rfl
   | new _ => rfl
   | slot j =>
    unfold Dm.pk
    dsimp only
    by_cases z : j = i
    ·subst z
     rw [List.getElem?_set_self (List.getElem?_eq_some_iff.mp h).1,h]
    ·rw [List.getElem?_set_ne (Ne.symm z)]
  ·cases e; rfl
  ·cases e
theorem tk_of_pk {ρ : Dm.Env} {x : Dm.Val} {d : Dm.Dat} (e : Dm.pk ρ x = some d) : ∃ ρ',Dm.tk ρ x = some (d,ρ') := by
 cases x with
 | val d' => cases e; exact ⟨ρ,rfl⟩
 | new d' => cases e; exact ⟨ρ,rfl⟩
 | slot i =>
  unfold Dm.pk at e
  dsimp only at e
  unfold Dm.tk
  dsimp only
  split at e
  ·rename_i d' h; cases e; exact ⟨_,rfl⟩
  ·rename_i d' h; cases e; exact ⟨_,rfl⟩
  ·cases e
theorem tks_of_pks : ∀ {xs : List Dm.Val} {ρ : Dm.Env} {ds : List Dm.Dat},Dm.pks ρ xs = some ds → ∃ ρ',Dm.tks ρ xs = some (ds,ρ')
 | [],ρ,ds,e => by cases e; exact ⟨ρ,rfl⟩
 | x :: xs,ρ,ds,e => by
  unfold Dm.pks at e
  split at e
  ·cases e
  ·rename_i d e1
   split at e
   ·cases e
   ·rename_i ds' e2
    cases e
    obtain ⟨ρ1,h1⟩ := tk_of_pk e1
    have key : ∀ ys : List Dm.Val,Dm.pks ρ1 ys = Dm.pks ρ ys := fun ys => by
     induction ys with
     | nil => rfl
     | cons y ys ih => unfold Dm.pks; rw [pk_tk h1 y,ih]
    obtain ⟨ρ2,h2⟩ := tks_of_pks (xs := xs) (ρ := ρ1) (ds := ds') (by rw [key]; exact e2)
    exact ⟨ρ2,by unfold Dm.tks; rw [h1]; dsimp only; rw [h2]⟩
theorem looks {Hs H0 H : Hp} {σ : St} {ρ : Dm.Env} (st : RepSt H0 H σ ρ) : ∀ {xs : List Dm.Val} {vs : List V} {ds : List Dm.Dat},RepVs Hs H0 H σ ρ vs xs → Dm.pks ρ xs = some ds → RepOs H0 H vs ds
 | [],_,ds,r,e => by cases r; cases e; exact .nil
 | x :: xs,_,ds,r,e => by
  cases r with
  | cons h r =>
   unfold Dm.pks at e
   split at e
   ·cases e
   ·rename_i d e1
    split at e
    ·cases e
    ·rename_i ds' e2
     cases e
     exact .cons (h.look st e1) (looks st r e2)
def OpD (r : R2) (g : Dm.Dat → Dm.Dat → Option Dm.RV) : Prop := ∀ (H0 H : Hp) (x y : V) (dx dy : Dm.Dat) (z : Dm.RV) (Q : VK),Same H0 H → RepO H0 H x dx → RepO H0 H y dy → g dx dy = some z →
 (∀ v H0' H',Grow H0 H H0' H' → RepR H H0' H' v z → Q v H') → r x y H Q
def UnD (r : V → Hp → VK → Prop) (g : Dm.Dat → Option Dm.RV) : Prop := ∀ (H0 H : Hp) (x : V) (dx : Dm.Dat) (z : Dm.RV) (Q : VK),Same H0 H → RepO H0 H x dx → g dx = some z →
 (∀ v H0' H',Grow H0 H H0' H' → RepR H H0' H' v z → Q v H') → r x H Q
def CallD (r : List V → Hp → VK → Prop) (g : List Dm.Dat → Option Dm.RV) : Prop := ∀ (H0 H : Hp) (vs : List V) (ds : List Dm.Dat) (z : Dm.RV) (Q : VK),Same H0 H → RepOs H0 H vs ds → g ds = some z →
 (∀ v H0' H',Grow H0 H H0' H' → RepR H H0' H' v z → Q v H') → r vs H Q
def spD (f : List Dm.Dat → Option Dm.RV) : Sp := fun vs H Q _ => ∃ H0 ds z,Same H0 H ∧ Reps H0 vs ds ∧ f ds = some z ∧ ∀ v H0' H',Grow H0 H H0' H' → RepR H H0' H' v z → Q v H'
section
variable {σ : St} {H : Hp} {Q : VK}
theorem r_var {i : Nat} (h : tD (Dm.eV i) σ H Q) : tVar i σ H Q := by
 obtain ⟨H0,ρ,x,ρ',st,e,k⟩ := h
 unfold Dm.eV at e
 split at e
 ·rename_i d h1
  cases e
  obtain ⟨v,q,r⟩ := st.sh i d h1
  exact ⟨v,q,k v H0 H (.refl st) r⟩
 ·rename_i d h1
  cases e
  obtain ⟨a,q,_⟩ := st.ow i d h1
  exact ⟨_,q,k _ H0 H (.refl st) ⟨q,trivial⟩⟩
 ·cases e
theorem r_const {d : Dm.Dat} {v : V} (c : ∀ H0 : Hp,Rep H0 v d) (h : tD (Dm.eC d) σ H Q) : tC v σ H Q := by
 obtain ⟨H0,ρ,x,ρ',st,e,k⟩ := h
 cases e
 exact k v H0 H (.refl st) (c H0)
theorem r_e2 {r : R2} {g : Dm.Dat → Dm.Dat → Option Dm.RV} {fa fb : Dm.FE} (o : OpD r g) (h : tD (Dm.e2 g fa fb) σ H Q) : tOp r (tD fa) (tD fb) σ H Q := by
 obtain ⟨H0,ρ,x,ρ',st,e,k⟩ := h
 unfold Dm.e2 at e
 split at e
 ·cases e
 rename_i x1 ρ1 e1
 split at e
 ·cases e
 rename_i y1 ρ2 e2
 split at e
 ·cases e
 rename_i dx p1
 split at e
 ·cases e
 rename_i dy p2
 split at e
 ·cases e
 rename_i z gz
 cases e
 refine ⟨H0,ρ,x1,ρ1,st,e1,fun v H1 Hb t1 r1 => ⟨H1,ρ1,y1,_,t1.st,e2,fun u H2 Hc t2 r2 => ?_⟩⟩
 refine o H2 Hc v u dx dy z Q t2.st.same ((r1.mono t2).look t2.st p1) (r2.look t2.st p2) gz fun w H3 Hd g3 r3 => ?_
 exact k w H3 Hd (t1.trans (t2.trans (.grow t2.st g3))) ((r3.toV t2.st).early fun a n => (t1.trans t2).stp.gone n)
theorem r_e1 {r : V → Hp → VK → Prop} {g : Dm.Dat → Option Dm.RV} {fa : Dm.FE} (o : UnD r g) (h : tD (Dm.e1 g fa) σ H Q) : tUn r (tD fa) σ H Q := by
 obtain ⟨H0,ρ,x,ρ',st,e,k⟩ := h
 unfold Dm.e1 at e
 split at e
 ·cases e
 rename_i x1 ρ1 e1
 split at e
 ·cases e
 rename_i dx p1
 split at e
 ·cases e
 rename_i z gz
 cases e
 refine ⟨H0,ρ,x1,_,st,e1,fun v H1 Hb t1 r1 => ?_⟩
 refine o H1 Hb v dx z Q t1.st.same (r1.look t1.st p1) gz fun w H3 Hd g3 r3 => ?_
 exact k w H3 Hd (t1.trans (.grow t1.st g3)) ((r3.toV t1.st).early fun a n => t1.stp.gone n)
theorem r_nil {Q : List V → Hp → Prop} (h : tDA [] σ H Q) : tNil σ H Q := by
 obtain ⟨H0,ρ,xs,ρ',st,e,k⟩ := h
 cases e
 exact k [] H0 H (.refl st) .nil
theorem r_cons {f : Dm.FE} {fs : List Dm.FE} {Q : List V → Hp → Prop} (h : tDA (f :: fs) σ H Q) : tCons (tD f) (tDA fs) σ H Q := by
 obtain ⟨H0,ρ,xs,ρ',st,e,k⟩ := h
 unfold Dm.eAs at e
 split at e
 ·cases e
 rename_i x1 ρ1 e1
 split at e
 ·cases e
 rename_i xs1 ρ2 e2
 cases e
 refine ⟨H0,ρ,x1,ρ1,st,e1,fun v H1 Hb t1 r1 => ⟨H1,ρ1,xs1,_,t1.st,e2,fun vs H2 Hc t2 r2 => ?_⟩⟩
 exact k (v :: vs) H2 Hc (t1.trans t2) (.cons (r1.mono t2) (r2.early fun a n => t1.stp.gone n))
theorem r_cb {r : List V → Hp → VK → Prop} {g : List Dm.Dat → Option Dm.RV} {fs : List Dm.FE} (o : CallD r g) (h : tD (Dm.eB g fs) σ H Q) : tCB r (tDA fs) σ H Q := by
 obtain ⟨H0,ρ,x,ρ',st,e,k⟩ := h
 unfold Dm.eB at e
 split at e
 ·cases e
 rename_i xs ρ1 e1
 split at e
 ·cases e
 rename_i ds p1
 split at e
 ·cases e
 rename_i z gz
 cases e
 refine ⟨H0,ρ,xs,_,st,e1,fun vs H1 Hb t1 r1 => ?_⟩
 refine o H1 Hb vs ds z Q t1.st.same (looks t1.st r1 p1) gz fun w H3 Hd g3 r3 => ?_
 exact k w H3 Hd (t1.trans (.grow t1.st g3)) ((r3.toV t1.st).early fun a n => t1.stp.gone n)
theorem sz_line {n : Nat} (h : n ≤ Dm.SZ) : n ≤ sizeLine := Nat.le_trans h (by decide)
theorem r_tup {fs : List Dm.FE} (h : tD (Dm.eTup fs) σ H Q) : tTup (tDA fs) σ H Q := by
 obtain ⟨H0,ρ,x,ρ',st,e,k⟩ := h
 unfold Dm.eTup at e
 split at e
 ·cases e
 rename_i xs ρ1 e1
 split at e
 ·cases e
 rename_i ds ρ2 e2
 split at e
 ·rename_i hz
  cases e
  refine ⟨H0,ρ,xs,ρ1,st,e1,fun vs H1 Hb t1 r1 => ?_⟩
  obtain ⟨H2,t2,b2,r2⟩ := takes t1 (Same.refl _) r1 e2
  refine ⟨by rw [r2.length]; exact sz_line hz,fun p hp => ?_⟩
  have g := Grow.newS (o := HO.tup vs) t2.st.same hp
  exact k _ _ _ (t2.trans (.grow t2.st g)) (.tup upd_same (r2.mono g.s0))
 ·cases e
theorem r_lst {fs : List Dm.FE} (h : tD (Dm.eLst fs) σ H Q) : tLst (tDA fs) σ H Q := by
 obtain ⟨H0,ρ,x,ρ',st,e,k⟩ := h
 unfold Dm.eLst at e
 split at e
 ·cases e
 rename_i xs ρ1 e1
 split at e
 ·cases e
 rename_i ds ρ2 e2
 split at e
 ·rename_i hz
  cases e
  refine ⟨H0,ρ,xs,ρ1,st,e1,fun vs H1 Hb t1 r1 => ?_⟩
  obtain ⟨H2,t2,b2,r2⟩ := takes t1 (Same.refl _) r1 e2
  refine ⟨by rw [r2.length]; exact sz_line hz,fun p hp => ?_⟩
  have g := Grow.newO (o := HO.lst vs) t2.st.same hp
  refine k _ _ _ (t2.trans (.grow t2.st g)) ⟨p,rfl,t2.stp.gone hp,fun ⟨i,d,h1,h2⟩ => ?_,t2.st.same.free hp,vs,upd_same,r2⟩
  obtain ⟨a,q,_,w⟩ := t2.st.ow i d h1
  rw [h2] at q
  cases q
  obtain ⟨o,z⟩ := w.some
  rw [hp] at z; cases z
 ·cases e
theorem Rep.plain {H0 H1 : Hp} {v : V} {d : Dm.Dat} (r : Rep H0 v d) (n : Dm.isBox d = false) : Rep H1 v d := by
 cases r with
 | non => exact .non
 | bl b => exact .bl b
 | int i => exact .int i
 | str s => exact .str s
 | tup _ _ => cases n
 | lst _ _ => cases n
 | dct _ _ _ => cases n
 | exc _ => cases n
 | fn a => exact .fn a
theorem Own.box {H0 H : Hp} {a : Addr} {d : Dm.Dat} (w : Own H0 H a d) : Dm.isBox d = true := by
 cases d with
 | lst ds => rfl
 | dct ks ds => rfl
 | _ => exact False.elim w
theorem r_call {f : List Dm.Dat → Option Dm.RV} {fs : List Dm.FE} {E : XK} (h : tD (Dm.eF f fs) σ H Q) : tCall (spD f) [] E (tDA fs) σ H Q := by
 obtain ⟨H0,ρ,x,ρ',st,e,k⟩ := h
 unfold Dm.eF at e
 split at e
 ·cases e
 rename_i xs ρ1 e1
 split at e
 ·cases e
 rename_i ds p1
 split at e
 ·cases e
 rename_i z fz
 refine ⟨H0,ρ,xs,ρ1,st,e1,fun vs H1 Hb t1 r1 => ?_⟩
 dsimp only
 rw [List.append_nil]
 obtain ⟨ρ2,e2⟩ := tks_of_pks p1
 obtain ⟨H2,t2,b2,r2⟩ := takes t1 (Same.refl _) r1 e2
 split at e
 ·rw [e2] at e
  cases e
  exact ⟨H2,ds,z,t2.st.same,r2,fz,fun w H3 Hd g3 r3 => k w H3 Hd (t2.trans (.grow t2.st g3)) ((r3.toV t2.st).early fun a n => t2.stp.gone n)⟩
 ·rename_i nb
  cases e
  refine ⟨H2,ds,z,t2.st.same,r2,fz,fun w H3 Hd g3 r3 => ?_⟩
  have g : Grow H1 Hb H1 Hd := ⟨Same.refl _,g3.s1,fun a o q => .inr q,t1.st.same.trans g3.s1⟩
  refine k w H1 Hd (t1.trans (.grow t1.st g)) ?_
  cases z with
  | val d => exact Rep.plain r3 (by simpa [Dm.RV.dat] using nb)
  | new d =>
   obtain ⟨a,_,_,_,w⟩ := r3
   exact absurd w.box (by simpa [Dm.RV.dat] using nb)
theorem Rep.isBl {H0 : Hp} {v : V} {c : Bool} (r : Rep H0 v (.bl c)) : v = .bl c := by cases r; rfl
theorem Rep.isInt {H0 : Hp} {v : V} {c : Int} (r : Rep H0 v (.int c)) : v = .int c := by cases r; rfl
theorem r_and {a b : Dm.FE} (h : tD (Dm.eAnd a b) σ H Q) : tAndV (tD a) (tD b) σ H Q := by
 obtain ⟨H0,ρ,x,ρ',st,e,k⟩ := h
 unfold Dm.eAnd at e
 split at e
 ·rename_i ρ1 e1
  refine ⟨H0,ρ,_,_,st,e1,fun v H1 Hb t1 r1 => ⟨true,Rep.isBl r1,?_⟩⟩
  try dsimp only
  rw [if_pos rfl]
  exact ⟨H1,ρ1,x,ρ',t1.st,e,fun v H2 Hc t2 r2 => k v H2 Hc (t1.trans t2) (r2.early fun a n => t1.stp.gone n)⟩
 ·rename_i ρ1 e1
  cases e
  refine ⟨H0,ρ,_,_,st,e1,fun v H1 Hb t1 r1 => ⟨false,Rep.isBl r1,?_⟩⟩
  try dsimp only
  rw [if_neg Bool.false_ne_true]
  exact k _ H1 Hb t1 (Rep.bl false)
 ·cases e
theorem r_not {a : Dm.FE} (h : tD (Dm.eNot a) σ H Q) : tNotV (tD a) σ H Q := by
 obtain ⟨H0,ρ,x,ρ',st,e,k⟩ := h
 unfold Dm.eNot at e
 split at e
 ·rename_i c ρ1 e1
  cases e
  exact ⟨H0,ρ,_,_,st,e1,fun v H1 Hb t1 r1 => ⟨c,Rep.isBl r1,k _ H1 Hb t1 (Rep.bl (!c))⟩⟩
 ·cases e
variable {Qt : Bool → Hp → Prop}
theorem r_test {a : Dm.FE} (h : tDT (Dm.tV a) σ H Qt) : tTest (tD a) σ H Qt := by
 obtain ⟨H0,ρ,x,ρ',st,e,k⟩ := h
 unfold Dm.tV at e
 split at e
 ·rename_i c ρ1 e1
  cases e
  exact ⟨H0,ρ,_,_,st,e1,fun v H1 Hb t1 r1 => ⟨_,Rep.isBl r1,k H1 Hb t1⟩⟩
 ·cases e
theorem r_tnot {t : Dm.FT} (h : tDT (Dm.tNot t) σ H Qt) : tNot (tDT t) σ H Qt := by
 obtain ⟨H0,ρ,x,ρ',st,e,k⟩ := h
 unfold Dm.tNot at e
 split at e
 ·rename_i c ρ1 e1
  cases e
  exact ⟨H0,ρ,_,_,st,e1,fun H1 Hb t1 => k H1 Hb t1⟩
 ·cases e
theorem r_tand {t u : Dm.FT} (h : tDT (Dm.tAnd t u) σ H Qt) : tAnd (tDT t) (tDT u) σ H Qt := by
 obtain ⟨H0,ρ,x,ρ',st,e,k⟩ := h
 unfold Dm.tAnd at e
 split at e
 ·rename_i ρ1 e1
  refine ⟨H0,ρ,_,ρ1,st,e1,fun H1 Hb t1 => ?_⟩
  dsimp only
  rw [if_pos rfl]
  exact ⟨H1,ρ1,x,ρ',t1.st,e,fun H2 Hc t2 => k H2 Hc (t1.trans t2)⟩
 ·rename_i ρ1 e1
  cases e
  refine ⟨H0,ρ,_,_,st,e1,fun H1 Hb t1 => ?_⟩
  dsimp only
  rw [if_neg Bool.false_ne_true]
  exact k H1 Hb t1
 ·cases e
theorem r_tor {t u : Dm.FT} (h : tDT (Dm.tOr t u) σ H Qt) : tOr (tDT t) (tDT u) σ H Qt := by
 obtain ⟨H0,ρ,x,ρ',st,e,k⟩ := h
 unfold Dm.tOr at e
 split at e
 ·rename_i ρ1 e1
  cases e
  refine ⟨H0,ρ,_,_,st,e1,fun H1 Hb t1 => ?_⟩
  dsimp only
  rw [if_pos rfl]
  exact k H1 Hb t1
 ·rename_i ρ1 e1
  refine ⟨H0,ρ,_,ρ1,st,e1,fun H1 Hb t1 => ?_⟩
  dsimp only
  rw [if_neg Bool.false_ne_true]
  exact ⟨H1,ρ1,x,ρ',t1.st,e,fun H2 Hc t2 => k H2 Hc (t1.trans t2)⟩
 ·cases e
end
structure SSt (σ : St) (ρ : Dm.Env) (H0 H : Hp) (σ' : St) (ρ' : Dm.Env) (H0' H' : Hp) : Prop where
 st : RepSt H0' H' σ' ρ'
 stp : Stp (Owned σ ρ) H0 H H0' H'
 own : ∀ a,Owned σ' ρ' a → Owned σ ρ a ∨ H a = none
 fx : σ'[0]? = σ[0]?
theorem ESt.sst {σ : St} {ρ ρ' : Dm.Env} {H0 H H0' H' : Hp} (t : ESt σ ρ H0 H ρ' H0' H') : SSt σ ρ H0 H σ ρ' H0' H' := ⟨t.st,t.stp,fun a z => .inl (t.own a z),rfl⟩
theorem SSt.refl {σ : St} {ρ : Dm.Env} {H0 H : Hp} (st : RepSt H0 H σ ρ) : SSt σ ρ H0 H σ ρ H0 H := (ESt.refl st).sst
theorem SSt.trans {σ σ1 σ2 : St} {ρ ρ1 ρ2 : Dm.Env} {H0 H H1 H' H2 H'' : Hp} (t : SSt σ ρ H0 H σ1 ρ1 H1 H') (u : SSt σ1 ρ1 H1 H' σ2 ρ2 H2 H'') : SSt σ ρ H0 H σ2 ρ2 H2 H'' :=
 ⟨u.st,t.stp.trans u.stp t.own,fun a z => (u.own a z).elim (t.own a) fun n => .inr (t.stp.gone n),u.fx.trans t.fx⟩
def RepRt (σ : St) (ρ : Dm.Env) (H H0' H' : Hp) (v : V) : Dm.RV → Prop
 | .val d => Rep H0' v d
 | .new d => ∃ a,v = V.ref a ∧ (H a = none ∨ Owned σ ρ a) ∧ H0' a = none ∧ Own H0' H' a d
def OutOk (D : Ends) (σ : St) (ρ : Dm.Env) (H0 H : Hp) : Dm.Out → Prop
 | .nx ρ' => ∀ σ' H0' H',SSt σ ρ H0 H σ' ρ' H0' H' → D.nx σ' H'
 | .bk ρ' => ∀ σ' H0' H',SSt σ ρ H0 H σ' ρ' H0' H' → D.bk σ' H'
 | .ct ρ' => ∀ σ' H0' H',SSt σ ρ H0 H σ' ρ' H0' H' → D.ct σ' H'
 | .ret z ρ' => ∀ σ' v H0' H',SSt σ ρ H0 H σ' ρ' H0' H' → RepRt σ ρ H H0' H' v z → (∀ d a,z = .new d → v = .ref a → ¬ Owned σ' ρ' a) → D.rt v H'
def tDS (g : Dm.FS) : TS := fun D σ H => ∃ H0 ρ o,RepSt H0 H σ ρ ∧ g ρ = some o ∧ OutOk D σ ρ H0 H o
theorem OutOk.pre {D : Ends} {σ σ1 : St} {ρ ρ1 : Dm.Env} {H0 H H1 H' : Hp} {o : Dm.Out} (t : SSt σ ρ H0 H σ1 ρ1 H1 H') (k : OutOk D σ ρ H0 H o) : OutOk D σ1 ρ1 H1 H' o := by
 cases o with
 | nx ρ' => exact fun σ' H0' H' u => k σ' H0' H' (t.trans u)
 | bk ρ' => exact fun σ' H0' H' u => k σ' H0' H' (t.trans u)
 | ct ρ' => exact fun σ' H0' H' u => k σ' H0' H' (t.trans u)
 | ret z ρ' =>
  refine fun σ' v H0' H'' u r no => k σ' v H0' H'' (t.trans u) ?_ no
  cases z with
  | val d => exact r
  | new d =>
   obtain ⟨a,e,n,n0,w⟩ := r
   refine ⟨a,e,?_,n0,w⟩
   rcases n with n | n
   ·exact .inl (t.stp.gone n)
   ·exact (t.own a n).symm
theorem RepSt.mask {H0 H : Hp} {σ : L2.St} {ρ : Dm.Env} (st : RepSt H0 H σ ρ) (i : Nat) : RepSt H0 H σ (ρ.set i .un) where
 same := st.same
 len := by rw [List.length_set]; exact st.len
 sh := fun j d h => by
  by_cases q : i = j
  ·subst q; rw [List.getElem?_set] at h; simp only [if_true] at h; split at h <;> cases h
  ·rw [List.getElem?_set_ne q] at h; exact st.sh j d h
 ow := fun j d h => by
  by_cases q : i = j
  ·subst q; rw [List.getElem?_set] at h; simp only [if_true] at h; split at h <;> cases h
  ·rw [List.getElem?_set_ne q] at h; exact st.ow j d h
 dis := fun j j' d d' a h1 h2 h3 h4 => by
  by_cases q : i = j
  ·subst q; rw [List.getElem?_set] at h1; simp only [if_true] at h1; split at h1 <;> cases h1
  ·by_cases q' : i = j'
   ·subst q'; rw [List.getElem?_set] at h2; simp only [if_true] at h2; split at h2 <;> cases h2
   ·rw [List.getElem?_set_ne q] at h1
    rw [List.getElem?_set_ne q'] at h2
    exact st.dis j j' d d' a h1 h2 h3 h4
theorem owned_mask {σ : L2.St} {ρ : Dm.Env} {i : Nat} {a : Addr} (h : Owned σ (ρ.set i .un) a) : ∃ (j : Nat) (d : Dm.Dat),j ≠ i ∧ ρ[j]? = some (Dm.Cell.ow d) ∧ σ[j]? = some (some (V.ref a)) := by
 obtain ⟨j,d,h1,h2⟩ := h
 by_cases q : i = j
 ·subst q; rw [List.getElem?_set] at h1; simp only [if_true] at h1; split at h1 <;> cases h1
 ·rw [List.getElem?_set_ne q] at h1; exact ⟨j,d,fun z => q z.symm,h1,h2⟩
section
variable {D : Ends} {σ : St} {H : Hp}
theorem r_nx (h : tDS Dm.sNx D σ H) : tNext D σ H := by
 obtain ⟨H0,ρ,o,st,e,k⟩ := h
 cases e
 exact k σ H0 H (.refl st)
theorem r_ct (h : tDS Dm.sCt D σ H) : tCont D σ H := by
 obtain ⟨H0,ρ,o,st,e,k⟩ := h
 cases e
 exact k σ H0 H (.refl st)
theorem r_seq {s u : Dm.FS} (h : tDS (Dm.sSeq s u) D σ H) : tSeq (tDS s) (tDS u) D σ H := by
 obtain ⟨H0,ρ,o,st,e,k⟩ := h
 unfold Dm.sSeq at e
 split at e
 ·rename_i ρ1 e1
  exact ⟨H0,ρ,.nx ρ1,st,e1,fun σ' H0' H' t => ⟨H0',ρ1,o,t.st,e,k.pre t⟩⟩
 ·rename_i h1
  cases o with
  | nx ρ1 => exact absurd e (h1 ρ1)
  | bk ρ1 => exact ⟨H0,ρ,_,st,e,k⟩
  | ct ρ1 => exact ⟨H0,ρ,_,st,e,k⟩
  | ret z ρ1 => exact ⟨H0,ρ,_,st,e,k⟩
theorem r_expr {f : Dm.FE} (h : tDS (Dm.sE f) D σ H) : tDrop (tD f) D σ H := by
 obtain ⟨H0,ρ,o,st,e,k⟩ := h
 unfold Dm.sE at e
 split at e
 ·cases e
 ·rename_i x ρ1 e1
  cases e
  exact ⟨H0,ρ,x,ρ1,st,e1,fun v H0' H' t r => k σ H0' H' t.sst⟩
theorem r_ret {f : Dm.FE} (h : tDS (Dm.sR f) D σ H) : tRet (tD f) D σ H := by
 obtain ⟨H0,ρ,o,st,e,k⟩ := h
 unfold Dm.sR at e
 split at e
 ·cases e
 ·rename_i d ρ1 e1
  cases e
  refine ⟨H0,ρ,_,ρ1,st,e1,fun v H0' H' t r => ?_⟩
  obtain ⟨a,e,n,no,n0,w⟩ := r
  exact k σ v H0' H' t.sst ⟨a,e,.inl n,n0,w⟩ fun d' a' _ e' z => by
   rw [e] at e'
   cases e'
   exact no z
 ·rename_i d ρ1 e1
  cases e
  exact ⟨H0,ρ,_,ρ1,st,e1,fun v H0' H' t r => k σ v H0' H' t.sst r fun d' a' z => by cases z⟩
 ·rename_i i ρ1 e1
  split at e
  ·rename_i d h1
   cases e
   refine ⟨H0,ρ,_,ρ1,st,e1,fun v H0' H' t r => ?_⟩
   obtain ⟨q,_⟩ := r
   obtain ⟨a,q',n0,w⟩ := t.st.ow i d h1
   rw [q] at q'
   cases q'
   refine k σ _ H0' H' ⟨t.st.mask i,t.stp,fun b z => ?_,rfl⟩ ⟨a,rfl,.inr (t.own a ⟨i,d,h1,q⟩),n0,w⟩ fun d' a' _ e' z => ?_
   ·obtain ⟨j,d2,_,z1,z2⟩ := owned_mask z
    exact .inl (t.own b ⟨j,d2,z1,z2⟩)
   ·cases e'
    obtain ⟨j,d2,hj,z1,z2⟩ := owned_mask z
    exact hj (t.st.dis j i d2 d a z1 h1 z2 q)
  ·rename_i d h1
   cases e
   refine ⟨H0,ρ,_,ρ1,st,e1,fun v H0' H' t r => ?_⟩
   obtain ⟨q,_⟩ := r
   obtain ⟨u,q',w⟩ := t.st.sh i d h1
   rw [q] at q'
   cases q'
   exact k σ _ H0' H' t.sst w fun d' a' z => by cases z
  ·cases e
theorem r_ifS {t : Dm.FT} {a b : Dm.FS} (h : tDS (Dm.sIf t a b) D σ H) : tIfS (tDT t) (tDS a) (tDS b) D σ H := by
 obtain ⟨H0,ρ,o,st,e,k⟩ := h
 unfold Dm.sIf at e
 split at e
 ·cases e
 ·rename_i ρ1 e1
  refine ⟨H0,ρ,true,ρ1,st,e1,fun H1 Hb t1 => ?_⟩
  dsimp only
  rw [if_pos rfl]
  exact ⟨H1,ρ1,o,t1.st,e,k.pre t1.sst⟩
 ·rename_i ρ1 e1
  refine ⟨H0,ρ,false,ρ1,st,e1,fun H1 Hb t1 => ?_⟩
  dsimp only
  rw [if_neg Bool.false_ne_true]
  exact ⟨H1,ρ1,o,t1.st,e,k.pre t1.sst⟩
end
theorem set_getV {σ : St} {i j : Nat} {c d : Option V} (h : (σ.set i c)[j]? = some d) : (j = i ∧ d = c) ∨ (j ≠ i ∧ σ[j]? = some d) := by
 by_cases e : j = i
 ·subst e
  by_cases l : j < σ.length
  ·rw [List.getElem?_set_self l] at h
   exact .inl ⟨rfl,(Option.some.inj h).symm⟩
  ·rw [List.getElem?_eq_none (by simpa using Nat.not_lt.mp l)] at h
   cases h
 ·rw [List.getElem?_set_ne (Ne.symm e)] at h
  exact .inr ⟨e,h⟩
theorem RepSt.inσ {H0 H : Hp} {σ : St} {ρ : Dm.Env} {i : Nat} {c d : Dm.Cell} (st : RepSt H0 H σ ρ) (h : (ρ.set i c)[i]? = some d) : i < σ.length := by
 have := (List.getElem?_eq_some_iff.mp h).1
 rw [List.length_set] at this
 rw [st.len]; exact this
theorem owned_set_sh {σ : St} {ρ : Dm.Env} {i : Nat} {v : V} {d : Dm.Dat} {b : Addr} (h : Owned (σ.set i (some v)) (ρ.set i (.sh d)) b) : Owned σ ρ b := by
 obtain ⟨j,d',h1,h2⟩ := h
 rcases set_get h1 with ⟨_,z⟩ | ⟨hj,h1⟩
 ·cases z
 ·rcases set_getV h2 with ⟨z,_⟩ | ⟨_,h2⟩
  ·exact absurd z hj
  ·exact ⟨j,d',h1,h2⟩
theorem RepSt.set_sh {H0 H : Hp} {σ : St} {ρ : Dm.Env} {i : Nat} {v : V} {d : Dm.Dat} (st : RepSt H0 H σ ρ) (r : Rep H0 v d) : RepSt H0 H (σ.set i (some v)) (ρ.set i (.sh d)) where
 same := st.same
 len := by rw [List.length_set,List.length_set]; exact st.len
 sh := fun j d' h => by
  rcases set_get h with ⟨rfl,z⟩ | ⟨hj,h'⟩
  ·cases z
   exact ⟨v,List.getElem?_set_self (st.inσ h),r⟩
  ·obtain ⟨u,q,w⟩ := st.sh j d' h'
   exact ⟨u,by rw [List.getElem?_set_ne (Ne.symm hj)]; exact q,w⟩
 ow := fun j d' h => by
  rcases set_get h with ⟨_,z⟩ | ⟨hj,h'⟩
  ·cases z
  ·obtain ⟨u,q,w⟩ := st.ow j d' h'
   exact ⟨u,by rw [List.getElem?_set_ne (Ne.symm hj)]; exact q,w⟩
 dis := fun j k d1 d2 b h1 h2 h3 h4 => by
  rcases set_get h1 with ⟨_,z⟩ | ⟨hj,h1⟩
  ·cases z
  rcases set_get h2 with ⟨_,z⟩ | ⟨hk,h2⟩
  ·cases z
  rw [List.getElem?_set_ne (Ne.symm hj)] at h3
  rw [List.getElem?_set_ne (Ne.symm hk)] at h4
  exact st.dis j k d1 d2 b h1 h2 h3 h4
theorem RepSt.set_ow {H0 H : Hp} {σ : St} {ρ : Dm.Env} {i : Nat} {a : Addr} {d : Dm.Dat} (st : RepSt H0 H σ ρ) (no : ¬ Owned σ ρ a) (n0 : H0 a = none) (w : Own H0 H a d) : RepSt H0 H (σ.set i (some (.ref a))) (ρ.set i (.ow d)) where
 same := st.same
 len := by rw [List.length_set,List.length_set]; exact st.len
 sh := fun j d' h => by
  rcases set_get h with ⟨_,z⟩ | ⟨hj,h'⟩
  ·cases z
  ·obtain ⟨u,q,w⟩ := st.sh j d' h'
   exact ⟨u,by rw [List.getElem?_set_ne (Ne.symm hj)]; exact q,w⟩
 ow := fun j d' h => by
  rcases set_get h with ⟨rfl,z⟩ | ⟨hj,h'⟩
  ·cases z
   exact ⟨a,List.getElem?_set_self (st.inσ h),n0,w⟩
  ·obtain ⟨u,q,w⟩ := st.ow j d' h'
   exact ⟨u,by rw [List.getElem?_set_ne (Ne.symm hj)]; exact q,w⟩
 dis := fun j k d1 d2 b h1 h2 h3 h4 => by
  rcases set_get h1 with ⟨e1,z1⟩ | ⟨hj,h1'⟩
  ·rcases set_get h2 with ⟨e2,z2⟩ | ⟨hk,h2'⟩
   ·rw [e1,e2]
   ·rcases set_getV h3 with ⟨_,z⟩ | ⟨z,_⟩
    ·cases z
     rw [List.getElem?_set_ne (Ne.symm hk)] at h4
     exact absurd ⟨k,d2,h2',h4⟩ no
    ·exact absurd e1 z
  ·rcases set_get h2 with ⟨e2,z2⟩ | ⟨hk,h2'⟩
   ·rcases set_getV h4 with ⟨_,z⟩ | ⟨z,_⟩
    ·cases z
     rw [List.getElem?_set_ne (Ne.symm hj)] at h3
     exact absurd ⟨j,d1,h1',h3⟩ no
    ·exact absurd e2 z
   ·rw [List.getElem?_set_ne (Ne.symm hj)] at h3
    rw [List.getElem?_set_ne (Ne.symm hk)] at h4
    exact st.dis j k d1 d2 b h1' h2' h3 h4
theorem owned_set_ow {σ : St} {ρ : Dm.Env} {i : Nat} {a b : Addr} {d : Dm.Dat} (h : Owned (σ.set i (some (.ref a))) (ρ.set i (.ow d)) b) : b = a ∨ Owned σ ρ b := by
 obtain ⟨j,d',h1,h2⟩ := h
 rcases set_get h1 with ⟨e,_⟩ | ⟨hj,h1⟩
 ·rcases set_getV h2 with ⟨_,z⟩ | ⟨z,_⟩
  ·cases z; exact .inl rfl
  ·exact absurd e z
 ·rcases set_getV h2 with ⟨z,_⟩ | ⟨_,h2⟩
  ·exact absurd z hj
  ·exact .inr ⟨j,d',h1,h2⟩
theorem RepSt.write {H0 H : Hp} {σ : St} {ρ : Dm.Env} {i : Nat} {a : Addr} {d d' : Dm.Dat} {o : HO} (st : RepSt H0 H σ ρ) (e : ρ[i]? = some (.ow d)) (q : σ[i]? = some (some (V.ref a))) (w' : Own H0 (upd H a o) a d') :
  RepSt H0 (upd H a o) σ (ρ.set i (.ow d')) := by
 obtain ⟨a',q',n,w⟩ := st.ow i d e
 rw [q] at q'
 cases q'
 refine ⟨fun b u z => ?_,by rw [List.length_set]; exact st.len,fun j d1 h => ?_,fun j d1 h => ?_,fun j k d1 d2 b h1 h2 h3 h4 => ?_⟩
 ·rw [upd_ne (ne_of_none z n)]; exact st.same _ _ z
 ·rcases set_get h with ⟨_,z⟩ | ⟨hj,h'⟩
  ·cases z
  ·exact st.sh j d1 h'
 ·rcases set_get h with ⟨rfl,z⟩ | ⟨hj,h'⟩
  ·cases z
   exact ⟨a,q,n,w'⟩
  ·obtain ⟨b,q1,n1,w1⟩ := st.ow j d1 h'
   have nb : b ≠ a := fun y => hj (st.dis j i d1 d a h' e (y ▸ q1) q)
   exact ⟨b,q1,n1,w1.mono (Same.refl _) (upd_ne nb)⟩
 ·have f : ∀ {j : Nat} {d1 : Dm.Dat},(ρ.set i (.ow d'))[j]? = some (.ow d1) → ∃ d2,ρ[j]? = some (.ow d2) := fun {j d1} h => by
   rcases set_get h with ⟨rfl,_⟩ | ⟨_,h'⟩
   ·exact ⟨d,e⟩
   ·exact ⟨d1,h'⟩
  obtain ⟨x1,y1⟩ := f h1
  obtain ⟨x2,y2⟩ := f h2
  exact st.dis j k x1 x2 b y1 y2 h3 h4
theorem owned_write {σ : St} {ρ : Dm.Env} {i : Nat} {d d' : Dm.Dat} {b : Addr} (e : ρ[i]? = some (.ow d)) (h : Owned σ (ρ.set i (.ow d')) b) : Owned σ ρ b := by
 obtain ⟨j,d1,h1,h2⟩ := h
 rcases set_get h1 with ⟨rfl,_⟩ | ⟨_,h'⟩
 ·exact ⟨j,d,e,h2⟩
 ·exact ⟨j,d1,h',h2⟩
theorem Stp.write {σ : St} {ρ : Dm.Env} {H0 H : Hp} {a : Addr} {o : HO} (w : Owned σ ρ a) : Stp (Owned σ ρ) H0 H H0 (upd H a o) :=
 ⟨Same.refl _,fun b u e n => by rw [upd_ne (show b ≠ a from fun z => n (by rw [z]; exact w))]; exact e,fun b u e => .inr (.inl e),fun b u e => by
  by_cases z : b = a
  ·subst z; exact ⟨o,upd_same⟩
  ·exact ⟨u,by rw [upd_ne z]; exact e⟩⟩
section
variable {D : Ends} {σ : St} {H : Hp}
theorem r_asg {i : Nat} {f : Dm.FE} (h : tDS (Dm.sA i f) D σ H) : tAsg (tD f) (gName i) D σ H := by
 obtain ⟨H0,ρ,o,st,e,k⟩ := h
 unfold Dm.sA at e
 split at e
 ·cases e
 rename_i hi0
 split at e
 ·cases e
 ·rename_i d ρ1 e1
  cases e
  refine ⟨H0,ρ,_,ρ1,st,e1,fun v H0' H' t r => ?_⟩
  obtain ⟨a,e,n,no,n0,w⟩ := r
  subst e
  refine k _ H0' H' ⟨t.st.set_ow no n0 w,t.stp,fun b z => ?_,List.getElem?_set_ne hi0⟩
  rcases owned_set_ow z with rfl | z
  ·exact .inr n
  ·exact .inl (t.own b z)
 ·rename_i x ρ1 _ e1
  split at e
  ·cases e
  ·rename_i d ρ2 e2
   cases e
   refine ⟨H0,ρ,_,ρ1,st,e1,fun v H0' H' t r => ?_⟩
   obtain ⟨H1,t1,b1,r1,_,_⟩ := take1 t (Same.refl _) r e2
   exact k _ H1 H' ⟨t1.st.set_sh r1,t1.stp,fun b z => .inl (t1.own b (owned_set_sh z)),List.getElem?_set_ne hi0⟩
theorem def_set {ρ : Dm.Env} {i : Nat} {d : Dm.Dat} {j : Nat} (h : Def ρ j) : Def (ρ.set i (.sh d)) j := trivial
def gNames : List Nat → TGs
 | [] => gNil
 | i :: is => gCons (gName i) (gNames is)
theorem sets_ok {H0 H : Hp} {Q : St → Hp → Prop} : ∀ {is : List Nat} {xs : List V} {ds : List Dm.Dat} {σ : St} {ρ ρ' : Dm.Env},RepSt H0 H σ ρ → Reps H0 xs ds → Dm.sets is ds ρ = some ρ' →
  (∀ σ',RepSt H0 H σ' ρ' → (∀ a,Owned σ' ρ' a → Owned σ ρ a) → (∀ j,j ∉ is → σ'[j]? = σ[j]?) → (∀ j,Def ρ j → Def ρ' j) → σ'[0]? = σ[0]? → Q σ' H) → gNames is xs σ H Q
 | [],_,[],σ,ρ,ρ',st,r,e,k => by
  cases r
  cases e
  exact ⟨rfl,k σ st (fun _ z => z) (fun _ _ => rfl) (fun _ z => z) rfl⟩
 | i :: is,_,d :: ds,σ,ρ,ρ',st,r,e,k => by
  cases r with
  | cons h r =>
   unfold Dm.sets at e
   split at e
   ·cases e
   rename_i hi0
   refine ⟨_,_,rfl,?_⟩
   refine sets_ok (st.set_sh h) r e fun σ' st' o' n' d' f' => k σ' st' (fun a z => owned_set_sh (o' a z)) (fun j hj => ?_) (fun j z => d' j (def_set z)) (f'.trans (List.getElem?_set_ne hi0))
   rw [n' j fun z => hj (List.mem_cons_of_mem _ z)]
   exact List.getElem?_set_ne fun z => hj (by rw [z]; exact List.mem_cons_self)
 | [],_,_ :: _,_,_,_,_,_,e,_ => by cases e
 | _ :: _,_,[],_,_,_,_,_,e,_ => by cases e
theorem sets_len : ∀ {is : List Nat} {ds : List Dm.Dat} {ρ ρ' : Dm.Env},Dm.sets is ds ρ = some ρ' → ds.length = is.length
 | [],[],_,_,_ => rfl
 | i :: is,_ :: ds,_,_,e => by
  unfold Dm.sets at e
  split at e
  ·cases e
  ·simp [sets_len (is := is) (ds := ds) e]
 | [],_ :: _,_,_,e => by cases e
 | _ :: _,[],_,_,e => by cases e
def BD (is : List Nat) (g : TG) (bd : Dm.FB) : Prop := ∀ (H0 H : Hp) (σ : St) (ρ ρ' : Dm.Env) (x : V) (d : Dm.Dat) (Q : St → Hp → Prop),RepSt H0 H σ ρ → Rep H0 x d → bd d ρ = some ρ' →
 (∀ σ',RepSt H0 H σ' ρ' → (∀ a,Owned σ' ρ' a → Owned σ ρ a) → (∀ j,j ∉ is → σ'[j]? = σ[j]?) → (∀ j,Def ρ j → Def ρ' j) → σ'[0]? = σ[0]? → Q σ' H) → g x σ H Q
theorem bd_name (i : Nat) : BD [i] (gName i) (Dm.bN i) := by
 intro H0 H σ ρ ρ' x d Q st r e k
 unfold Dm.bN at e
 split at e
 ·cases e
 rename_i hi0
 cases e
 refine k _ (st.set_sh r) (fun a z => owned_set_sh z) (fun j hj => ?_) (fun j h => def_set h) (List.getElem?_set_ne hi0)
 exact List.getElem?_set_ne (fun z => hj (by rw [z]; exact List.mem_singleton.mpr rfl))
theorem bd_tup {K : PySem.W.Frag} (is : List Nat) {n : Nat} (hn : is.length = n) : BD is (gTup K n (gNames is)) (Dm.bT is) := by
 intro H0 H σ ρ ρ' x d Q st r e k
 unfold Dm.bT at e
 split at e
 ·cases r with
  | tup q rs => exact ⟨_,_,rfl,SqT.of (st.same _ _ q),by rw [rs.length,sets_len e,hn],sets_ok st rs e k⟩
 ·cases e
theorem r_app {K : PySem.W.Frag} {i : Nat} {f : Dm.FE} (h : tDS (Dm.sApp i f) D σ H) : tDrop (tBM K "list" rAppend (tVar i) (tDA [f])) D σ H := by
 obtain ⟨H0,ρ,o,st,e,k⟩ := h
 unfold Dm.sApp at e
 split at e
 ·rename_i ds0 h0
  obtain ⟨a0,q0,n0,w0⟩ := st.ow i _ h0
  refine ⟨_,q0,?_⟩
  split at e
  ·cases e
  rename_i x ρ1 e1
  split at e
  ·cases e
  rename_i d ρ2 e2
  split at e
  ·rename_i ds h2
   split at e
   ·rename_i hz
    cases e
    obtain ⟨xs0,y0,_⟩ := w0
    refine ⟨.inl ⟨rfl,xs0,.inl (.inl y0)⟩,?_⟩
    refine ⟨H0,ρ,[x],ρ1,st,by unfold Dm.eAs; rw [e1]; rfl,fun vs H0' H' t r => ?_⟩
    cases r with
    | cons r rr =>
     cases rr
     obtain ⟨H1,t1,b1,r1,_,_⟩ := take1 t (Same.refl _) r e2
     obtain ⟨a,q,n,w⟩ := t1.st.ow i _ h2
     rw [q0] at q
     cases q
     obtain ⟨xs,y,rs⟩ := w
     refine ⟨a0,xs,_,rfl,rfl,y,by rw [rs.length]; exact Nat.lt_of_lt_of_le hz (by decide),?_⟩
     have ow : Owned σ ρ2 a0 := ⟨i,_,h2,q0⟩
     refine k σ H1 _ ⟨t1.st.write h2 q0 ⟨_,upd_same,rs.append (.cons r1 .nil)⟩,t1.stp.trans (Stp.write ow) fun b z => .inl (t1.own b z),fun b z => .inl (t1.own b (owned_write h2 z)),rfl⟩
   ·cases e
  ·cases e
 ·cases e
theorem ixN_eq (n : Nat) (i : Int) : Dm.ixN n i = L2.ixN n i := rfl
theorem r_set {i : Nat} {j f : Dm.FE} (h : tDS (Dm.sSet i j f) D σ H) : tAsg (tD f) (gSub (tVar i) (tD j) rSetL) D σ H := by
 obtain ⟨H0,ρ,o,st,e,k⟩ := h
 unfold Dm.sSet at e
 split at e
 ·cases e
 rename_i x ρ1 e1
 split at e
 ·cases e
 rename_i d ρ2 e2
 split at e
 case h_2 => cases e
 rename_i d0 h2
 split at e
 ·rename_i m ρ3 e3
  split at e
  ·rename_i ds h3
   split at e
   ·cases e
   ·rename_i p e4
    cases e
    refine ⟨H0,ρ,_,ρ1,st,e1,fun v H0' H' t r => ?_⟩
    obtain ⟨H1,t1,b1,r1,_,_⟩ := take1 t (Same.refl _) r e2
    obtain ⟨a0,q0,_,_⟩ := t1.st.ow i _ h2
    refine ⟨_,q0,H1,ρ2,_,ρ3,t1.st,e3,fun u H2 Hc t2 r2 => ?_⟩
    obtain ⟨a,q,n,w⟩ := t2.st.ow i _ h3
    rw [q0] at q
    cases q
    obtain ⟨xs,y,rs⟩ := w
    refine ⟨a0,xs,m,p,rfl,Rep.isInt r2,y,by rw [rs.length]; exact e4,?_⟩
    have ow : Owned σ ρ3 a0 := ⟨i,_,h3,q0⟩
    have tt := t1.trans t2
    refine k σ H2 _ ⟨t2.st.write h3 q0 ⟨_,upd_same,rs.set (r1.mono t2.stp.s0) p⟩,tt.stp.trans (Stp.write ow) fun b z => .inl (tt.own b z),fun b z => .inl (tt.own b (owned_write h3 z)),rfl⟩
  ·cases e
 ·cases e
theorem r_while {t : Dm.FT} {body : Dm.FS} {n : Nat} (h : tDS (Dm.whD t body n) D σ H) : tWhile (tDT t) (tDS body) D σ H := by
 refine ⟨fun m σ H => tDS (Dm.whD t body m) D σ H,⟨n,h⟩,?_⟩
 rintro m σ H ⟨H0,ρ,o,st,e,k⟩
 cases m with
 | zero => unfold Dm.whD at e; cases e
 | succ m =>
  unfold Dm.whD at e
  split at e
  ·cases e
  ·rename_i ρ1 e1
   cases e
   refine ⟨H0,ρ,false,ρ1,st,e1,fun H1 Hb t1 => ?_⟩
   dsimp only
   rw [if_neg Bool.false_ne_true]
   exact k σ H1 Hb t1.sst
  ·rename_i ρ1 e1
   refine ⟨H0,ρ,true,ρ1,st,e1,fun H1 Hb t1 => ?_⟩
   dsimp only
   rw [if_pos rfl]
   refine ⟨fun σ' H' => tDS (Dm.whD t body m) D σ' H',fun σ' H' q => ⟨m,Nat.lt_succ_self m,q⟩,?_⟩
   have k1 := k.pre t1.sst
   split at e
   ·rename_i ρ2 e2
    exact ⟨H1,ρ1,_,t1.st,e2,fun σ' H0' H' t2 => ⟨H0',ρ2,o,t2.st,e,k1.pre t2⟩⟩
   ·rename_i ρ2 e2
    exact ⟨H1,ρ1,_,t1.st,e2,fun σ' H0' H' t2 => ⟨H0',ρ2,o,t2.st,e,k1.pre t2⟩⟩
   ·rename_i ρ2 e2
    cases e
    exact ⟨H1,ρ1,_,t1.st,e2,k1⟩
   ·rename_i v ρ2 e2
    cases e
    exact ⟨H1,ρ1,_,t1.st,e2,k1⟩
   ·cases e
def JW (J : It) (H00 : Hp) (ys : List Dm.Dat) : Prop := ∀ H0 H,Same H00 H0 → Same H0 H → (∀ i,ys.length ≤ i → J.stop i H) ∧
 ∀ (i : Nat) (d : Dm.Dat),ys[i]? = some d → J.go i H ∧ ∀ x H',J.yld i H x H' → ∃ H0',Grow H0 H H0' H' ∧ Rep H0' x d
def tDI (fi : Dm.FI) : TI := fun σ H R => ∃ H0 ρ ys ρ',RepSt H0 H σ ρ ∧ fi ρ = some (ys,ρ') ∧ ∀ J H0' H',ESt σ ρ H0 H ρ' H0' H' → JW J H0' ys → R J H'
theorem r_for {fi : Dm.FI} {bd : Dm.FB} {g : TG} {body : Dm.FS} {is : List Nat} (hb : BD is g bd) (h : tDS (Dm.sFor fi bd body) D σ H) : tFor (tDI fi) g (tDS body) D σ H := by
 obtain ⟨H0,ρ,o,st,e,k⟩ := h
 unfold Dm.sFor at e
 split at e
 ·cases e
 rename_i ys ρ1 e1
 refine ⟨H0,ρ,ys,ρ1,st,e1,fun J H00 Hb t1 jw => ?_⟩
 refine ⟨fun i m σ H => ∃ H0 ρ o,RepSt H0 H σ ρ ∧ Same H00 H0 ∧ m = ys.length - i ∧ i ≤ ys.length ∧ Dm.forD bd body (ys.drop i) ρ = some o ∧ OutOk D σ ρ H0 H o,
  ⟨ys.length,H00,ρ1,o,t1.st,Same.refl _,by simp,Nat.zero_le _,by simpa using e,k.pre t1.sst⟩,?_⟩
 rintro i m σ H ⟨H0,ρ,o,st,s00,rfl,hi,e,k⟩
 obtain ⟨js,jg⟩ := jw H0 H s00 st.same
 by_cases hlt : i < ys.length
 ·have hd : ys[i]? = some ys[i] := by simp [hlt]
  obtain ⟨g1,g2⟩ := jg i ys[i] hd
  rw [List.drop_eq_getElem_cons hlt] at e
  unfold Dm.forD at e
  refine .inr ⟨g1,fun σ' H' => ∃ H0 ρ o,RepSt H0 H' σ' ρ ∧ Same H00 H0 ∧ Dm.forD bd body (ys.drop (i + 1)) ρ = some o ∧ OutOk D σ' ρ H0 H' o,?_,fun x H' y => ?_⟩
  ·rintro σ' H' ⟨H0',ρ',o',h1,h2,h3,h4⟩
   exact ⟨ys.length - (i + 1),by omega,H0',ρ',o',h1,h2,rfl,hlt,h3,h4⟩
  ·obtain ⟨H0',gr,rx⟩ := g2 x H' y
   split at e
   ·cases e
   ·rename_i ρ2 e2
    have t2 := ESt.grow st gr
    refine hb H0' H' σ ρ ρ2 x ys[i] _ t2.st rx e2 fun σ2 st2 o2 _ _ f2 => ?_
    have t3 : SSt σ ρ H0 H σ2 ρ2 H0' H' := ⟨st2,t2.stp,fun a z => .inl (o2 a z),f2⟩
    have k3 := k.pre t3
    have s3 : Same H00 H0' := s00.trans gr.s0
    split at e
    ·rename_i ρ3 e3
     exact ⟨H0',ρ2,_,st2,e3,fun σ4 H4 Hd t4 => ⟨H4,ρ3,o,t4.st,s3.trans t4.stp.s0,e,k3.pre t4⟩⟩
    ·rename_i ρ3 e3
     exact ⟨H0',ρ2,_,st2,e3,fun σ4 H4 Hd t4 => ⟨H4,ρ3,o,t4.st,s3.trans t4.stp.s0,e,k3.pre t4⟩⟩
    ·rename_i ρ3 e3
     cases e
     exact ⟨H0',ρ2,_,st2,e3,k3⟩
    ·rename_i v ρ3 e3
     cases e
     exact ⟨H0',ρ2,_,st2,e3,k3⟩
    ·cases e
 ·have e' : i = ys.length := by omega
  subst e'
  rw [List.drop_length] at e
  cases e
  exact .inl ⟨js _ (Nat.le_refl _),k σ H0 H (.refl st)⟩
theorem jw_list {K : PySem.W.Frag} {H0 : Hp} {a : Addr} {xs : List V} {ds : List Dm.Dat} (hq : Rd H0 a (.lst xs)) (rs : Reps H0 xs ds) : JW (Itl K a) H0 ds := by
 intro H0' H s0 s1
 have q : SqL K H a xs := .inl (Same.rd s1 (Same.rd s0 hq))
 refine ⟨fun i hi => ⟨xs,q,by rw [rs.length]; exact hi⟩,fun i d e => ?_⟩
 obtain ⟨v,hv,rv⟩ := rs.get e
 refine ⟨⟨xs,v,q,hv⟩,fun x H' y => ?_⟩
 obtain ⟨e1,y⟩ := y
 subst e1
 have z := y xs q
 rw [hv] at z
 cases z
 exact ⟨H0',Grow.refl s1,rv.mono s0⟩
theorem jw_tup {K : PySem.W.Frag} {H0 : Hp} {a : Addr} {xs : List V} {ds : List Dm.Dat} (hq : H0 a = some (.tup xs)) (rs : Reps H0 xs ds) : JW (Itt K a) H0 ds := by
 intro H0' H s0 s1
 have q : SqT K H a xs := .inl (.inl (s1 _ _ (s0 _ _ hq)))
 refine ⟨fun i hi => ⟨xs,q,by rw [rs.length]; exact hi⟩,fun i d e => ?_⟩
 obtain ⟨v,hv,rv⟩ := rs.get e
 refine ⟨⟨xs,v,q,hv⟩,fun x H' y => ?_⟩
 obtain ⟨e1,y⟩ := y
 subst e1
 have z := y xs q
 rw [hv] at z
 cases z
 exact ⟨H0',Grow.refl s1,rv.mono s0⟩
theorem jw_range {H0 : Hp} {lo : Int} {n : Nat} : JW (Itr lo n) H0 (Dm.ups lo n) := by
 intro H0' H s0 s1
 have el : (Dm.ups lo n).length = n := by simp [Dm.ups]
 refine ⟨fun i hi => by rw [el] at hi; exact hi,fun i d e => ?_⟩
 have hi : i < n := by have := (List.getElem?_eq_some_iff.mp e).1; rw [el] at this; exact this
 have hd : d = .int (lo + i) := by
  unfold Dm.ups at e
  rw [List.getElem?_map,List.getElem?_range hi] at e
  exact (Option.some.inj e).symm
 refine ⟨hi,fun x H' y => ?_⟩
 obtain ⟨rfl,rfl⟩ := y
 subst hd
 exact ⟨H0',Grow.refl s1,.int _⟩
variable {R : It → Hp → Prop}
theorem r_iL {K : PySem.W.Frag} {f : Dm.FE} (h : tDI (Dm.iL f) σ H R) : iList K (tD f) σ H R := by
 obtain ⟨H0,ρ,ys,ρ',st,e,k⟩ := h
 unfold Dm.iL at e
 split at e
 ·cases e
 rename_i x ρ1 e1
 split at e
 ·rename_i ds ρ2 e2
  cases e
  refine ⟨H0,ρ,_,ρ1,st,e1,fun v H0' H' t r => ?_⟩
  obtain ⟨H1,t1,b1,r1,_,_⟩ := take1 t (Same.refl _) r e2
  cases r1 with
  | lst q rs => exact ⟨_,rfl,⟨_,.inl (Same.rd t1.st.same q)⟩,k _ H1 H' t1 (jw_list q rs)⟩
 ·cases e
theorem r_iT {K : PySem.W.Frag} {f : Dm.FE} (h : tDI (Dm.iT f) σ H R) : iTup K (tD f) σ H R := by
 obtain ⟨H0,ρ,ys,ρ',st,e,k⟩ := h
 unfold Dm.iT at e
 split at e
 ·cases e
 rename_i x ρ1 e1
 split at e
 ·rename_i ds ρ2 e2
  cases e
  refine ⟨H0,ρ,_,ρ1,st,e1,fun v H0' H' t r => ?_⟩
  obtain ⟨H1,t1,b1,r1,_,_⟩ := take1 t (Same.refl _) r e2
  cases r1 with
  | tup q rs => exact ⟨_,rfl,⟨_,.inl (.inl (t1.st.same _ _ q))⟩,k _ H1 H' t1 (jw_tup q rs)⟩
 ·cases e
theorem r_iR1 {f : Dm.FE} (h : tDI (Dm.iR1 f) σ H R) : iRng1 (tDA [f]) σ H R := by
 obtain ⟨H0,ρ,ys,ρ',st,e,k⟩ := h
 unfold Dm.iR1 at e
 split at e
 ·rename_i j ρ1 e1
  split at e
  ·rename_i hb
   cases e
   refine ⟨H0,ρ,[.val (.int j)],_,st,by unfold Dm.eAs; rw [e1]; rfl,fun vs H0' H' t r => ?_⟩
   cases r with
   | cons r rr =>
    cases rr
    cases Rep.isInt r
    have h1 := hb.1
    have h2 := hb.2
    unfold Dm.BIG at h1 h2
    exact ⟨j,rfl,by omega,by omega,k _ H0' H' t jw_range⟩
  ·cases e
 ·cases e
theorem r_iR2 {f g : Dm.FE} (h : tDI (Dm.iR2 f g) σ H R) : iRng2 (tDA [f,g]) σ H R := by
 obtain ⟨H0,ρ,ys,ρ',st,e,k⟩ := h
 unfold Dm.iR2 at e
 split at e
 ·rename_i i ρ1 e1
  split at e
  ·rename_i j ρ2 e2
   split at e
   ·rename_i hb
    cases e
    refine ⟨H0,ρ,[.val (.int i),.val (.int j)],_,st,by unfold Dm.eAs; rw [e1]; dsimp only; unfold Dm.eAs; rw [e2]; rfl,fun vs H0' H' t r => ?_⟩
    cases r with
    | cons r rr =>
     cases rr with
     | cons r' rr =>
      cases rr
      cases Rep.isInt r
      cases Rep.isInt r'
      obtain ⟨h1,h2,h3,h4⟩ := hb
      unfold Dm.BIG at h1 h2 h3 h4
      exact ⟨i,j,rfl,⟨by omega,by omega,by omega,by omega⟩,k _ H0' H' t jw_range⟩
   ·cases e
  ·cases e
 ·cases e
def tLC (wi : TI) (own : Nat) (g : TG) (tt : TT) (te : TE) : TE := fun σ H Q => wi σ H fun J H1 => ∀ D,H1 D = none → ∃ W : Nat → Nat → St → Hp → Prop,
 (∃ m,W 0 m (σ ++ List.replicate own none) (upd H1 D (.lst []))) ∧ ∀ i m σ' H',W i m σ' H' →
  (J.stop i H' ∧ Q (.ref D) H') ∨ (J.go i H' ∧ ∀ x H2,J.yld i H' x H2 → g x σ' H2 fun σ2 H3 => tt σ2 H3 fun b H4 => if b = true
   then te σ2 H4 fun y H5 => ∃ acc,H5 D = some (.lst acc) ∧ acc.length < sizeLine ∧ ∃ m',m' < m ∧ W (i + 1) m' σ2 (upd H5 D (.lst (acc ++ [y])))
   else ∃ m',m' < m ∧ W (i + 1) m' σ2 H4)
theorem RepSt.aside {H0 H : Hp} {σ : St} {ρ : Dm.Env} {a : Addr} {o : HO} (st : RepSt H0 H σ ρ) (n0 : H0 a = none) (no : ¬ Owned σ ρ a) : RepSt H0 (upd H a o) σ ρ where
 same := fun b u z => by rw [upd_ne (ne_of_none z n0)]; exact st.same _ _ z
 len := st.len
 sh := st.sh
 ow := fun j d h => by
  obtain ⟨b,q,n,w⟩ := st.ow j d h
  have nb : b ≠ a := fun y => no ⟨j,d,h,y ▸ q⟩
  exact ⟨b,q,n,w.mono (Same.refl _) (upd_ne nb)⟩
 dis := st.dis
theorem RepSt.notOwned {H0 H : Hp} {σ : St} {ρ : Dm.Env} {a : Addr} (st : RepSt H0 H σ ρ) (h : H a = none) : ¬ Owned σ ρ a := fun ⟨i,d,h1,h2⟩ => by
 obtain ⟨b,q,n,w⟩ := st.ow i d h1
 rw [h2] at q
 cases q
 obtain ⟨o,z⟩ := w.some
 rw [h] at z; cases z
theorem get_ext {α : Type} {l : List α} {r : List α} {i : Nat} {x : α} (h : (l ++ r)[i]? = some x) (n : x ∉ r) : i < l.length ∧ l[i]? = some x := by
 by_cases hi : i < l.length
 ·rw [List.getElem?_append_left hi] at h
  exact ⟨hi,h⟩
 ·rw [List.getElem?_append_right (Nat.not_lt.mp hi)] at h
  exact absurd (List.mem_of_getElem? h) n
theorem sh_notun {d : Dm.Dat} {k : Nat} : Dm.Cell.sh d ∉ List.replicate k Dm.Cell.un := fun h => by
 have := List.eq_of_mem_replicate h
 cases this
theorem ow_notun {d : Dm.Dat} {k : Nat} : Dm.Cell.ow d ∉ List.replicate k Dm.Cell.un := fun h => by
 have := List.eq_of_mem_replicate h
 cases this
theorem RepSt.ext {H0 H : Hp} {σ : St} {ρ : Dm.Env} (st : RepSt H0 H σ ρ) (k : Nat) : RepSt H0 H (σ ++ List.replicate k none) (ρ ++ List.replicate k .un) where
 same := st.same
 len := by simp [st.len]
 sh := fun i d h => by
  obtain ⟨hi,h⟩ := get_ext h sh_notun
  obtain ⟨v,q,r⟩ := st.sh i d h
  exact ⟨v,by rw [List.getElem?_append_left (by rw [st.len]; exact hi)]; exact q,r⟩
 ow := fun i d h => by
  obtain ⟨hi,h⟩ := get_ext h ow_notun
  obtain ⟨v,q,r⟩ := st.ow i d h
  exact ⟨v,by rw [List.getElem?_append_left (by rw [st.len]; exact hi)]; exact q,r⟩
 dis := fun i j d e a h1 h2 h3 h4 => by
  obtain ⟨hi,h1⟩ := get_ext h1 ow_notun
  obtain ⟨hj,h2⟩ := get_ext h2 ow_notun
  rw [List.getElem?_append_left (by rw [st.len]; exact hi)] at h3
  rw [List.getElem?_append_left (by rw [st.len]; exact hj)] at h4
  exact st.dis i j d e a h1 h2 h3 h4
theorem owned_ext {H0 H : Hp} {σ : St} {ρ : Dm.Env} (st : RepSt H0 H σ ρ) {k : Nat} {a : Addr} (h : Owned (σ ++ List.replicate k none) (ρ ++ List.replicate k .un) a) : Owned σ ρ a := by
 obtain ⟨i,d,h1,h2⟩ := h
 obtain ⟨hi,h1⟩ := get_ext h1 ow_notun
 rw [List.getElem?_append_left (by rw [st.len]; exact hi)] at h2
 exact ⟨i,d,h1,h2⟩
theorem Stp.aside {O : Addr → Prop} {H0 H H0' H' : Hp} {D : Addr} {o : HO} (t : Stp O H0 H H0' H') (hD : H D = none) : Stp O H0 H H0' (upd H' D o) :=
 ⟨t.s0,fun a u e n => by rw [upd_ne (ne_of_none e hD)]; exact t.s1 a u e n,t.s2,fun a u e => by rw [upd_ne (ne_of_none e hD)]; exact t.s3 a u e⟩
theorem ESt.stay0 {σ : St} {ρ ρ' : Dm.Env} {H0 H H0' H' : Hp} (t : ESt σ ρ H0 H ρ' H0' H') {D : Addr} {o : HO} (h : H D = some o) (n0 : H0 D = none) (no : ¬ Owned σ ρ D) : H' D = some o ∧ H0' D = none ∧ ¬ Owned σ ρ' D := by
 refine ⟨t.stp.s1 D o h no,?_,fun z => no (t.own D z)⟩
 cases q : H0' D with
 | none => rfl
 | some u =>
  rcases t.stp.s2 D u q with z | z | z
  ·rw [h] at z; cases z
  ·rw [n0] at z; cases z
  ·exact absurd z no
def JWa (J : It) (H00 : Hp) (pa : Option (Addr × HO)) (ys : List Dm.Dat) : Prop := ∀ H0 H,Same H00 H0 → Same H0 H → (∀ q,pa = some q → H q.1 = some q.2) → (∀ i,ys.length ≤ i → J.stop i H) ∧
 ∀ (i : Nat) (d : Dm.Dat),ys[i]? = some d → J.go i H ∧ ∀ x H',J.yld i H x H' → ∃ H0',Grow H0 H H0' H' ∧ Rep H0' x d
theorem comp_run {σ : St} {own : Nat} {bd : Dm.FB} {g : TG} {t : Dm.FT} {el : Dm.FE} {is : List Nat} {Q : VK} {H00 Hb : Hp} {ρ1 ρ2 : Dm.Env} {ds ys : List Dm.Dat} {J : It} {pa : Option (Addr × HO)} (hb : BD is g bd) (hl : ∀ i ∈ is,σ.length ≤ i)
  (st1 : RepSt H00 Hb σ ρ1) (hp : ∀ q,pa = some q → Hb q.1 = some q.2 ∧ H00 q.1 = none ∧ ¬ Owned σ ρ1 q.1) (jw : JWa J H00 pa ds) (hsz : ds.length ≤ Dm.SZ) (e2 : Dm.compD bd t el ds (ρ1 ++ List.replicate own .un) [] = some (ys,ρ2))
  (k : ∀ v H0' H',ESt σ ρ1 H00 Hb (ρ2.take ρ1.length) H0' H' → RepV Hb H0' H' σ (ρ2.take ρ1.length) v (.new (.lst ys)) → (∀ q,pa = some q → H' q.1 = some q.2 ∧ H0' q.1 = none) → Q v H') (D : Addr) (hD : Hb D = none) :
  ∃ W : Nat → Nat → St → Hp → Prop,(∃ m,W 0 m (σ ++ List.replicate own none) (upd Hb D (.lst []))) ∧ ∀ i m σ' H',W i m σ' H' →
  (J.stop i H' ∧ Q (.ref D) H') ∨ (J.go i H' ∧ ∀ x H2,J.yld i H' x H2 → g x σ' H2 fun σ2 H3 => tDT t σ2 H3 fun b H4 => if b = true
   then tD el σ2 H4 fun y H5 => ∃ acc,H5 D = some (.lst acc) ∧ acc.length < sizeLine ∧ ∃ m',m' < m ∧ W (i + 1) m' σ2 (upd H5 D (.lst (acc ++ [y])))
   else ∃ m',m' < m ∧ W (i + 1) m' σ2 H4) := by
 have hpD : ∀ q,pa = some q → q.1 ≠ D := fun q e z => by have := (hp q e).1; rw [z,hD] at this; cases this
 have noD : ¬ Owned σ ρ1 D := st1.notOwned hD
 refine ⟨fun i m σ' H' => ∃ (H0c : Hp) (ρc : Dm.Env) (accD : List Dm.Dat) (accV : List V),RepSt H0c H' σ' ρc ∧ Same H00 H0c ∧ m = ds.length - i ∧ i ≤ ds.length ∧ Dm.compD bd t el (ds.drop i) ρc accD = some (ys,ρ2) ∧
  H' D = some (.lst accV) ∧ Reps H0c accV accD ∧ H0c D = none ∧ accD.length ≤ i ∧ Stp (Owned σ ρ1) H00 Hb H0c H' ∧ (∀ j,j < σ.length → σ'[j]? = σ[j]?) ∧ (∀ a,Owned σ' ρc a → Owned σ ρ1 a) ∧ (∀ j,Def ρ1 j → Def ρc j) ∧ (∀ q,pa = some q → H' q.1 = some q.2 ∧ H0c q.1 = none ∧ ¬ Owned σ' ρc q.1),
  ⟨ds.length,H00,ρ1 ++ List.replicate own .un,[],[],(st1.aside (st1.same.free hD) noD).ext own,Same.refl _,by simp,Nat.zero_le _,by simpa using e2,upd_same,.nil,st1.same.free hD,Nat.zero_le _,(Stp.refl _ _ _).aside hD,
   fun j hj => List.getElem?_append_left hj,fun a z => owned_ext st1 z,fun j z => trivial,fun q e => ⟨by rw [upd_ne (hpD q e)]; exact (hp q e).1,(hp q e).2.1,fun z => (hp q e).2.2 (owned_ext st1 z)⟩⟩,?_⟩
 rintro i m σ' H' ⟨H0c,ρc,accD,accV,sc,s00,rfl,hi,ec,hDl,ra,n0,hal,sp,hσ,ho,hdf,hpc⟩
 have nOc : ¬ Owned σ' ρc D := fun z => noD (ho D z)
 obtain ⟨js,jg⟩ := jw H0c H' s00 sc.same fun q e => (hpc q e).1
 by_cases hlt : i < ds.length
 ·have hd : ds[i]? = some ds[i] := by simp [hlt]
  obtain ⟨g1,g2⟩ := jg i ds[i] hd
  rw [List.drop_eq_getElem_cons hlt] at ec
  unfold Dm.compD at ec
  refine .inr ⟨g1,fun y H2 yy => ?_⟩
  obtain ⟨H0',gr,rx⟩ := g2 y H2 yy
  split at ec
  ·cases ec
  rename_i ρ3 e3
  have t2 := ESt.grow sc gr
  obtain ⟨hD2,n02,no2⟩ := t2.stay0 hDl n0 nOc
  have hp2 := fun q e => t2.stay0 (hpc q e).1 (hpc q e).2.1 (hpc q e).2.2
  refine hb H0' H2 σ' ρc ρ3 y ds[i] _ t2.st rx e3 fun σ3 st3 o3 k3 d3 _ => ?_
  have no3 : ¬ Owned σ3 ρ3 D := fun z => no2 (o3 D z)
  have po3 : ∀ q,pa = some q → ¬ Owned σ3 ρ3 q.1 := fun q e z => (hp2 q e).2.2 (o3 q.1 z)
  have hσ3 : ∀ j,j < σ.length → σ3[j]? = σ[j]? := fun j hj => (k3 j fun z => Nat.not_lt.mpr (hl j z) hj).trans (hσ j hj)
  have ho3 : ∀ a,Owned σ3 ρ3 a → Owned σ ρ1 a := fun a z => ho a (o3 a z)
  have hdf3 : ∀ j,Def ρ1 j → Def ρ3 j := fun j z => d3 j (hdf j z)
  have sp3 : Stp (Owned σ ρ1) H00 Hb H0' H2 := sp.trans t2.stp fun a z => .inl (ho a z)
  have ra3 := ra.mono gr.s0
  have s3 : Same H00 H0' := s00.trans gr.s0
  split at ec
  ·cases ec
  ·rename_i ρ4 e4
   refine ⟨H0',ρ3,false,ρ4,st3,e4,fun H0'' H'' t4 => ?_⟩
   dsimp only
   rw [if_neg Bool.false_ne_true]
   obtain ⟨hD4,n04,no4⟩ := t4.stay0 hD2 n02 no3
   have hp4 := fun q e => t4.stay0 (hp2 q e).1 (hp2 q e).2.1 (po3 q e)
   exact ⟨ds.length - (i + 1),by omega,H0'',ρ4,accD,accV,t4.st,s3.trans t4.stp.s0,rfl,hlt,ec,hD4,ra3.mono t4.stp.s0,n04,Nat.le_succ_of_le hal,sp3.trans t4.stp fun a z => .inl (ho3 a z),hσ3,fun a z => ho3 a (t4.own a z),fun j z => t4.dfn j (hdf3 j z),hp4⟩
  ·rename_i ρ4 e4
   refine ⟨H0',ρ3,true,ρ4,st3,e4,fun H0'' H'' t4 => ?_⟩
   dsimp only
   rw [if_pos rfl]
   obtain ⟨hD4,n04,no4⟩ := t4.stay0 hD2 n02 no3
   have hp4 := fun q e => t4.stay0 (hp2 q e).1 (hp2 q e).2.1 (po3 q e)
   split at ec
   ·cases ec
   rename_i x5 ρ5 e5
   split at ec
   ·cases ec
   rename_i y6 ρ6 e6
   refine ⟨H0'',ρ4,x5,ρ5,t4.st,e5,fun v H5 Hc t5 r5 => ?_⟩
   obtain ⟨H6,t6,b6,r6,_,_⟩ := take1 t5 (Same.refl _) r5 e6
   obtain ⟨hD6,n06,no6⟩ := t6.stay0 hD4 n04 no4
   have hp6 := fun q e => t6.stay0 (hp4 q e).1 (hp4 q e).2.1 (hp4 q e).2.2
   refine ⟨accV,hD6,?_,ds.length - (i + 1),by omega,H6,ρ6,accD ++ [y6],accV ++ [v],t6.st.aside n06 no6,(s3.trans t4.stp.s0).trans t6.stp.s0,rfl,hlt,ec,upd_same,?_,n06,?_,?_,hσ3,fun a z => ho3 a (t4.own a (t6.own a z)),fun j z => t6.dfn j (t4.dfn j (hdf3 j z)),fun q e => ⟨by rw [upd_ne (hpD q e)]; exact (hp6 q e).1,(hp6 q e).2.1,(hp6 q e).2.2⟩⟩
   ·rw [ra.length]
    unfold Dm.SZ at hsz
    exact Nat.lt_of_le_of_lt (Nat.le_trans hal (Nat.le_trans (Nat.le_of_lt hlt) hsz)) (by decide)
   ·exact ((ra3.mono t4.stp.s0).mono t6.stp.s0).append (.cons r6 .nil)
   ·rw [List.length_append,List.length_singleton]; omega
   ·exact ((sp3.trans t4.stp fun a z => .inl (ho3 a z)).trans t6.stp fun a z => .inl (ho3 a (t4.own a z))).aside hD
 ·have e' : i = ds.length := by omega
  subst e'
  rw [List.drop_length] at ec
  cases ec
  refine .inl ⟨js _ (Nat.le_refl _),k _ H0c H' ?_ ?_ fun q e => ⟨(hpc q e).1,(hpc q e).2.1⟩⟩
  ·have hlen : σ.length ≤ ρ2.length := by
    rw [← sc.len]
    refine Nat.not_lt.mp fun z => ?_
    have q := hσ σ'.length z
    rw [List.getElem?_eq_none (Nat.le_refl _),List.getElem?_eq_getElem z] at q
    cases q
   have tk : ∀ {j : Nat} {c : Dm.Cell},(ρ2.take ρ1.length)[j]? = some c → j < σ.length ∧ ρ2[j]? = some c := fun {j c} h => by
    have hj : j < ρ1.length := by
     have := (List.getElem?_eq_some_iff.mp h).1
     rw [List.length_take] at this
     omega
    rw [List.getElem?_take_of_lt hj] at h
    exact ⟨by rw [st1.len]; exact hj,h⟩
   have own' : ∀ a,Owned σ (ρ2.take ρ1.length) a → Owned σ' ρ2 a := fun a ⟨j,d,h1,h2⟩ => by
    obtain ⟨hj,h1⟩ := tk h1
    exact ⟨j,d,h1,(hσ j hj).trans h2⟩
   refine ⟨⟨sc.same,?_,fun j d h => ?_,fun j d h => ?_,fun j j' d d' a h1 h2 h3 h4 => ?_⟩,sp,fun a z => ho a (own' a z),fun j z => ?_⟩
   ·rw [List.length_take,← st1.len]; omega
   ·obtain ⟨hj,h⟩ := tk h
    obtain ⟨v,q,r⟩ := sc.sh j d h
    exact ⟨v,(hσ j hj).symm.trans q,r⟩
   ·obtain ⟨hj,h⟩ := tk h
    obtain ⟨v,q,r⟩ := sc.ow j d h
    exact ⟨v,(hσ j hj).symm.trans q,r⟩
   ·obtain ⟨hj,h1⟩ := tk h1
    obtain ⟨hj',h2⟩ := tk h2
    exact sc.dis j j' d d' a h1 h2 ((hσ j hj).trans h3) ((hσ j' hj').trans h4)
   ·trivial
  ·refine ⟨D,rfl,hD,fun ⟨j,d,h1,h2⟩ => ?_,n0,accV,hDl,ra⟩
   have hj : j < ρ1.length := by
    have := (List.getElem?_eq_some_iff.mp h1).1
    rw [List.length_take] at this
    omega
   rw [List.getElem?_take_of_lt hj] at h1
   exact nOc ⟨j,d,h1,(hσ j (by rw [st1.len]; exact hj)).trans h2⟩
theorem r_comp {fi : Dm.FI} {own : Nat} {bd : Dm.FB} {g : TG} {t : Dm.FT} {el : Dm.FE} {is : List Nat} {Q : VK} (hb : BD is g bd) (hl : ∀ i ∈ is,σ.length ≤ i) (h : tD (Dm.eComp fi own bd t el) σ H Q) :
  tLC (tDI fi) own g (tDT t) (tD el) σ H Q := by
 obtain ⟨H0,ρ,x,ρ',st,e,k⟩ := h
 unfold Dm.eComp at e
 split at e
 ·cases e
 rename_i ds ρ1 e1
 split at e
 case isFalse => cases e
 rename_i hsz
 split at e
 ·cases e
 rename_i ys ρ2 e2
 cases e
 refine ⟨H0,ρ,ds,ρ1,st,e1,fun J H00 Hb t1 jw D hD => comp_run (pa := none) hb hl t1.st (fun q e => by cases e) (fun H0 H s0 s1 _ => jw H0 H s0 s1) hsz e2 (fun v H0' H' t2 r2 _ => k v H0' H' (t1.trans t2) (r2.early fun a n => t1.stp.gone n)) D hD⟩
theorem fn_len {n m : Nat} {body : Dm.FS} {vs : List V} {H : Hp} {Q : VK} {E : XK} (h : spD (Dm.fn n m body) vs H Q E) : vs.length = n := by
 obtain ⟨H0,ds,z,s,rs,e,k⟩ := h
 unfold Dm.fn at e
 split at e
 ·rename_i hl
  rw [rs.length]; exact hl
 ·cases e
theorem r_fn {N : List Str} {n m : Nat} {body : Dm.FS} {vs : List V} {Q : VK} {E : XK} (hm : N.length = n + m) (h : spD (Dm.fn n m body) vs H Q E) :
  tDS body { nx := fun _ H' => Q .non H',rt := Q } (start N vs) H := by
 have hvn := fn_len h
 obtain ⟨H0,ds,z,s,rs,e,k⟩ := h
 have hl := rs.length
 have no : ∀ a,¬ Owned (start N vs) (ds.map Dm.Cell.sh ++ List.replicate m .un) a := fun a ⟨i,d,h1,_⟩ => by
  by_cases hi : i < ds.length
  ·rw [List.getElem?_append_left (by simpa using hi),List.getElem?_map] at h1
   cases q : ds[i]? with
   | none => rw [q] at h1; cases h1
   | some y => rw [q] at h1; cases h1
  ·rw [List.getElem?_append_right (by simpa using hi),List.getElem?_replicate] at h1
   split at h1 <;> cases h1
 have st : RepSt H0 H (start N vs) (ds.map Dm.Cell.sh ++ List.replicate m .un) := by
  refine ⟨s,?_,fun i d h => ?_,fun i d h => ?_,fun i j d e a h1 h2 _ _ => ?_⟩
  ·unfold L2.start
   simp only [List.length_append,List.length_map,List.length_replicate]
   omega
  ·have hi : i < ds.length := by
    by_cases hi : i < ds.length
    ·exact hi
    ·rw [List.getElem?_append_right (by simpa using hi),List.getElem?_replicate] at h
     split at h <;> cases h
   rw [List.getElem?_append_left (by simpa using hi),List.getElem?_map] at h
   cases q : ds[i]? with
   | none => rw [q] at h; cases h
   | some y =>
    rw [q] at h
    cases h
    obtain ⟨v,hv,r⟩ := rs.get q
    refine ⟨v,?_,r⟩
    unfold L2.start
    rw [List.getElem?_append_left (by simpa [hl] using hi),List.getElem?_map,hv]
    rfl
  ·by_cases hi : i < ds.length
   ·rw [List.getElem?_append_left (by simpa using hi),List.getElem?_map] at h
    cases q : ds[i]? with
    | none => rw [q] at h; cases h
    | some y => rw [q] at h; cases h
   ·rw [List.getElem?_append_right (by simpa using hi),List.getElem?_replicate] at h
    split at h <;> cases h
  ·by_cases hi : i < ds.length
   ·rw [List.getElem?_append_left (by simpa using hi),List.getElem?_map] at h1
    cases q : ds[i]? with
    | none => rw [q] at h1; cases h1
    | some y => rw [q] at h1; cases h1
   ·rw [List.getElem?_append_right (by simpa using hi),List.getElem?_replicate] at h1
    split at h1 <;> cases h1
 have gr : ∀ {H0' H'},Stp (Owned (start N vs) (ds.map Dm.Cell.sh ++ List.replicate m .un)) H0 H H0' H' → Same H0' H' → Grow H0 H H0' H' := fun {H0' H'} t ss =>
  ⟨t.s0,fun a o e => t.s1 a o e (no a),fun a o e => (t.s2 a o e).imp id fun q => q.elim id fun z => absurd z (no a),ss⟩
 unfold Dm.fn at e
 rw [if_pos (by rw [← hl]; exact hvn)] at e
 split at e
 ·rename_i r ρ' e1
  cases e
  refine ⟨H0,_,_,st,e1,fun σ' v H0' H' t r _ => k v H0' H' (gr t.stp t.st.same) ?_⟩
  cases z with
  | val d => exact r
  | new d =>
   obtain ⟨a,e,n,n0,w⟩ := r
   exact ⟨a,e,n.elim id fun z => absurd z (no a),n0,w⟩
 ·rename_i ρ' e1
  cases e
  exact ⟨H0,_,_,st,e1,fun σ' H0' H' t => k _ H0' H' (gr t.stp t.st.same) .non⟩
 ·cases e
end
open PySem PySem.Spec PyProof.Rows L2
def compX (X : Cx) (nm : List Str) (scope : Scope) (own : List Str) (cl : List (Str × Addr)) (C : Addr) (s : Shared) (H : Hp) (fp : List Addr) : Cx where
 prog := X.prog
 w := X.w
 K := X.K
 mg := X.mg
 base := X.base
 A := X.A
 N := nm ++ own
 s₀ := s
 H₀ := H
 env := compEnvC scope cl C X.env
 outer := X.stack
 stack := X.stack
 ex := fp
 fn := fun _ => false
 calm := X.calm
 pn := []
 xe := fun _ _ => False
def PTs (X : Cx) (ifs : List Expr) (t : TT) : Prop :=
 ∀ (pins : List (Addr × Obj)) (s : Shared) (σ : L2.St) (H : Hp) (Q : Bool → Hp → Prop),Inv X pins σ H s → t σ H Q →
  wpAny (model X.prog X.w) X.A (forIn ifs true fun c r => if r = true then do let ok ← isTrue c X.env (eval c X.env); pure (ForInStep.yield ok) else pure (ForInStep.yield r)) (TP X pins σ Q) X.xe s
def tYes : TT := fun _ H Q => Q true H
theorem pts_nil {X : Cx} : PTs X [] tYes := fun pins s σ H Q I h => wpAny_tests_nil ⟨H,I,h⟩
theorem pts_one {X : Cx} {c : Expr} {t : TT} (h : PT X c t) : PTs X [c] t := fun pins s σ H Q I hq => wpAny_tests_one (h pins s σ H Q I hq)
theorem closure_names (env : Env) : ∀ (names : List (Str × NameKind)) (cs : List (Str × Addr)),(∀ y ∈ names,y.2 = .free → ∃ c,env.cells.lookup y.1 = some c) →
  ∃ cl,(forIn names cs fun (x : Str × NameKind) (r : List (Str × Addr)) => (if (x.2 == NameKind.free) = true then do let c ← cellOf env x.1; pure (ForInStep.yield ((x.1,c) :: r)) else pure (ForInStep.yield r) : Sem (ForInStep (List (Str × Addr))))) = pure cl ∧
   (∀ x c,cl.lookup x = some c → env.cells.lookup x = some c ∨ cs.lookup x = some c) ∧ (∀ y ∈ names,y.2 = .free → ∃ c,cl.lookup y.1 = some c) ∧ (∀ x c,cs.lookup x = some c → ∃ c',cl.lookup x = some c')
 | [],cs,_ => ⟨cs,rfl,fun _ _ h => .inr h,fun _ h => (nomatch h),fun _ c h => ⟨c,h⟩⟩
 | (n,k) :: r,cs,h => by
  have hr : ∀ y ∈ r,y.2 = .free → ∃ c,env.cells.lookup y.1 = some c := fun y hy => h y (List.mem_cons_of_mem _ hy)
  by_cases hk : k = .free
  ·subst hk
   obtain ⟨c,hc⟩ := h (n,.free) List.mem_cons_self rfl
   obtain ⟨cl,e,h1,h2,h3⟩ := closure_names env r ((n,c) :: cs) hr
   refine ⟨cl,?_,fun x c' q => ?_,fun y hy hf => ?_,fun x c' q => ?_⟩
   ·rw [List.forIn_cons]
    have e1 : cellOf env n = pure c := by unfold cellOf; rw [hc]
    simp only [beq_self_eq_true,if_true,e1,pure_bind]
    exact e
   ·rcases h1 x c' q with z | z
    ·exact .inl z
    ·rw [List.lookup_cons] at z
     cases hx : x == n with
     | true =>
      rw [hx] at z
      have : x = n := by simpa using hx
      subst this
      injection z with z
      subst z
      exact .inl hc
     | false => rw [hx] at z; exact .inr z
   ·rcases List.mem_cons.mp hy with rfl | hy
    ·exact h3 n c (by rw [List.lookup_cons,beq_self_eq_true])
    ·exact h2 y hy hf
   ·by_cases hx : x = n
    ·subst hx
     exact h3 x c (by rw [List.lookup_cons,beq_self_eq_true])
    ·have hx' : (x == n) = false := by simpa using hx
     exact h3 x c' (by rw [List.lookup_cons,hx']; exact q)
  ·have hb : (k == NameKind.free) = false := by simpa using hk
   obtain ⟨cl,e,h1,h2,h3⟩ := closure_names env r cs hr
   refine ⟨cl,?_,h1,fun y hy hf => ?_,h3⟩
   ·rw [List.forIn_cons]
    simp only [hb,Bool.false_eq_true,if_false,pure_bind]
    exact e
   ·rcases List.mem_cons.mp hy with rfl | hy
    ·exact absurd hf hk
    ·exact h2 y hy hf
theorem closure_of {env : Env} {scope : Scope} (h : ∀ y ∈ scope.names,y.2 = .free → ∃ c,env.cells.lookup y.1 = some c) :
  ∃ cl,closureFor scope env = pure cl ∧ (∀ x c,cl.lookup x = some c → env.cells.lookup x = some c) ∧ ∀ y ∈ scope.names,y.2 = .free → ∃ c,cl.lookup y.1 = some c := by
 obtain ⟨cl,e,h1,h2,_⟩ := closure_names env scope.names [] h
 refine ⟨cl,?_,fun x c q => (h1 x c q).elim id fun z => by simp at z,h2⟩
 unfold closureFor
 have e' : (forIn scope.names ([] : List (Str × Addr)) fun (x : Str × NameKind) (r : List (Str × Addr)) => (if (x.2 == NameKind.free) = true then do let c ← cellOf env x.1; pure (ForInStep.yield ((x.1,c) :: r)) else pure (ForInStep.yield r) : Sem (ForInStep (List (Str × Addr))))) = pure cl := e
 first
  | (rw [show (forIn scope.names ([] : List (Str × Addr)) _ : Sem (List (Str × Addr))) = pure cl from e']; rfl)
  | (simp only [e']; rfl)
theorem compLoop_any {prog : Program} {w : World} {A : Around} {R : Result → Shared → Prop} {s : Shared} {elt target iter : Expr} {ifs : List Expr} {scope : Scope} {pos : Pos} {it acc : Value} {env : Env} (I : Nat → Shared → Prop)
  (turn : ∀ n s,I n s → wpAny (model prog w) A (pyNext it) (fun r s₁ => match r with
   | none => R (.ok .next) s₁
   | some v => wpAny (model prog w) A (letOwnedTupleGo target it v) (fun _ s₁' => wpAny (model prog w) A (assign target env v) (fun _ s₂ =>
     wpAny (model prog w) A (forIn ifs true fun c r => if r = true then do let ok ← isTrue c env (eval c env); pure (ForInStep.yield ok) else pure (ForInStep.yield r)) (fun ok s₃ =>
      if ok = true then wpAny (model prog w) A (eval elt env) (fun x s₄ =>
       wpAny (model prog w) A (call (.builtin "list.append") [acc, x]) (fun _ s₅ => ∃ m, m < n ∧ I m s₅) (fun _ _ => False) s₄) (fun _ _ => False) s₃
      else ∃ m,m < n ∧ I m s₃) (fun _ _ => False) s₂) (fun _ _ => False) s₁') (fun _ _ => False) s₁) (fun _ _ => False) s)
  (n : Nat) (h : I n s) :
  codeAny (model prog w) A (.compLoop (.ListComp elt [⟨target,iter,ifs,0⟩] scope pos) 0 it acc env) R s := by
 have no : ∀ {P : Value → Shared → Prop} (x : Value) (s' : Shared),False → P x s' := fun _ _ f => f.elim
 refine codeAny_loop rfl I (fun n s hI => ?_) n h
 show wpAny _ A ((compTurn (.ListComp elt [⟨target,iter,ifs,0⟩] scope pos) 0 it acc env).onRaise (fun x => do noteFrame x env; theTreesLotGoes x)) _ _ s
 refine wpAny_noted ?_
 rw [compTurn_list]
 refine wpAny_bind (wpAny_standAt (wpAny_bind (wpAny_mono (turn n s hI) (fun r s₁ h₁ => ?_) no)))
 cases r with
 | none => exact wpAny_pure h₁
 | some v =>
  refine wpAny_bind (wpAny_mono h₁ (fun _ s₁' h₁' => ?_) no)
  refine wpAny_bind (wpAny_mono h₁' (fun _ s₂ h₂ => wpAny_bind (wpAny_mono h₂ (fun ok s₃ h₃ => ?_) no)) no)
  cases ok with
  | false => exact wpAny_pure ⟨rfl,h₃⟩
  | true =>
   exact wpAny_bind (wpAny_bind (wpAny_mono h₃ (fun x s₄ h₄ => wpAny_bind (wpAny_mono h₄ (fun _ s₅ h₅ => wpAny_pure (wpAny_pure ⟨rfl,h₅⟩)) no)) no))
theorem relabel_names (env : Env) : ∀ (names : List (Str × NameKind)) (x : Str) (k : NameKind),
  (names.map fun (n,k) => if (k == NameKind.free && env.scope.kind == .function && env.kindOf n == some .cell) then (n,NameKind.cell) else (n,k)).lookup x = some k →
  ∃ k0,names.lookup x = some k0 ∧ (k = k0 ∨ (k0 = .free ∧ k = .cell))
 | [],x,k,h => by simp at h
 | (n,k1) :: r,x,k,h => by
  have h : List.lookup x ((if (k1 == NameKind.free && env.scope.kind == .function && env.kindOf n == some .cell) = true then (n,NameKind.cell) else (n,k1)) :: r.map fun (n,k) => if (k == NameKind.free && env.scope.kind == .function && env.kindOf n == some .cell) then (n,NameKind.cell) else (n,k)) = some k := h
  cases hx : x == n with
  | true =>
   by_cases hc : (k1 == NameKind.free && env.scope.kind == .function && env.kindOf n == some .cell) = true
   ·rw [if_pos hc,List.lookup_cons,hx] at h
    injection h with h
    have hk : k1 = .free := by
     simp only [Bool.and_eq_true,beq_iff_eq] at hc
     exact hc.1.1
    exact ⟨k1,by rw [List.lookup_cons,hx],.inr ⟨hk,h.symm⟩⟩
   ·rw [if_neg hc,List.lookup_cons,hx] at h
    injection h with h
    exact ⟨k1,by rw [List.lookup_cons,hx],.inl h.symm⟩
  | false =>
   by_cases hc : (k1 == NameKind.free && env.scope.kind == .function && env.kindOf n == some .cell) = true
   ·rw [if_pos hc,List.lookup_cons,hx] at h
    obtain ⟨k0,e,z⟩ := relabel_names env r x k h
    exact ⟨k0,by rw [List.lookup_cons,hx]; exact e,z⟩
   ·rw [if_neg hc,List.lookup_cons,hx] at h
    obtain ⟨k0,e,z⟩ := relabel_names env r x k h
    exact ⟨k0,by rw [List.lookup_cons,hx]; exact e,z⟩
structure CScope (X : Cx) (nm : List Str) (scope : Scope) : Prop where
 kind : scope.kind = .function
 cell : ∀ y ∈ scope.names,y.2 ≠ .cell
 names : ∀ y ∈ scope.names,y.2 = .local → scope.names.lookup y.1 = some .local
 free : ∀ y ∈ scope.names,y.2 = .free → X.env.kindOf y.1 = some .cell ∨ X.env.kindOf y.1 = some .free
 apart : ∀ x ∈ nm,scope.names.lookup x ≠ some .local
 len : nm.length = X.N.length
 mask : ∀ (i : Nat) (x : Str),nm[i]? = some x → X.N[i]? = some x ∨ scope.names.lookup x = none
section
variable {X : Cx} {nm : List Str} {elt tg iter : Expr} {ifs : List Expr} {scope : Scope} {pos : Pos} {own : List Str} {wi : TI} {g : TG} {tt : TT} {te : TE}
theorem comp_core {pins : List (Addr × Obj)} {s2 : Shared} {σ : L2.St} {H2 : Hp} {cl : List (Str × Addr)} {it : Addr} {fp : List Addr} {tn : Nat → Heap → Prop} {J : It} {Q : VK} {E : Value → Shared → Prop} {RR : Value → Addr → Result → Shared → Prop}
  (hc : X.calm = true) (S : CScope X nm scope) (hcl1 : ∀ x c,cl.lookup x = some c → X.env.cells.lookup x = some c) (hcl2 : ∀ y ∈ scope.names,y.2 = .free → ∃ c,cl.lookup y.1 = some c)
  (hg : ∀ cl C s H fp,PG (compX X nm scope own cl C s H fp) tg g) (ht : ∀ cl C s H fp,PTs (compX X nm scope own cl C s H fp) ifs tt) (he : ∀ cl C s H fp,PE (compX X nm scope own cl C s H fp) elt te)
  (I2 : Inv X pins σ H2 s2) (T : Turn X.prog X.w X.K tg J fp it tn) (st2 : tn 0 s2.heap) (f2 : ∀ b ∈ fp,FpOk X pins H2 b)
  (hR : ∀ D,H2 D = none → ∃ W : Nat → Nat → L2.St → Hp → Prop,
   (∃ m,W 0 m (σ ++ List.replicate own.length none) (upd H2 D (.lst []))) ∧ ∀ i m σ' H',W i m σ' H' →
    (J.stop i H' ∧ Q (.ref D) H') ∨ (J.go i H' ∧ ∀ x H2,J.yld i H' x H2 → g x σ' H2 fun σ2 H3 => tt σ2 H3 fun b H4 => if b = true
     then te σ2 H4 fun y H5 => ∃ acc,H5 D = some (.lst acc) ∧ acc.length < sizeLine ∧ ∃ m',m' < m ∧ W (i + 1) m' σ2 (upd H5 D (.lst (acc ++ [y])))
     else ∃ m',m' < m ∧ W (i + 1) m' σ2 H4))
  (hfin : ∀ D C H6 s6,Inv X pins σ H6 s6 → H6 C = none → C ≠ X.env.locals → X.s₀.heap.objs.size ≤ C → (∀ x c,X.env.cells.lookup x = some c → c ≠ C) → (∀ p ∈ X.pn ++ pins,p.1 ≠ C) → (∃ m,s6.heap.Ns C m) → Q (.ref D) H6 → RR (.ref D) C (.ok .next) s6) :
  wpAny (model X.prog X.w) X.A (newList []) (fun acc s₃ => wpAny (model X.prog X.w) X.A (newFunctionEnv scope X.env.globals cl [] X.env.qual none .none (some X.env)) (fun cenv s₄ =>
   codeAny (model X.prog X.w) X.A (.compStart (.ListComp elt [⟨tg,iter,ifs,0⟩] scope pos) 0 (.ref it) acc { cenv with scope := relabel scope X.env }) (RR acc cenv.locals) s₄) E s₃) E s2 := by
 have no : ∀ {P : Value → Shared → Prop} (x : Value) (s' : Shared),False → P x s' := fun _ _ f => f.elim
 refine wpAny_newObj_type (wpAny_newFunctionEnv S.cell (by intro y hy; simp at hy) (fun h₁ hns₁ hsb₁ => ?_) S.kind)
 dsimp only at hns₁ hsb₁ ⊢
 have I3 : Inv X pins σ (upd H2 s2.heap.objs.size (.lst [])) { s2 with heap := s2.heap.push { cls := .type "list", dict := none, data := .seq ([] : List Value).toArray } } := I2.lnew (t' := s2.toks) (ys := []) (its := []) .nil (Nat.zero_le _)
 generalize hG2 : s2.heap.push { cls := .type "list", dict := none, data := .seq ([] : List Value).toArray } = G2 at hns₁ hsb₁ I3 ⊢
 have hC : G2.objs.size = s2.heap.objs.size + 1 := by rw [← hG2,Heap.size_push]
 have up2 : ∀ b o,s2.heap.get? b = some o → G2.get? b = some o := fun b o e => hG2 ▸ Heap.get?_push_of_some _ e
 have up3 : ∀ b o,G2.get? b = some o → h₁.get? b = some o := fun b o e => hsb₁.extBut b o (Nat.ne_of_lt (Heap.lt_size e)) (Heap.get?_push_of_some _ e)
 have C_none : G2.get? G2.objs.size = none := Heap.get?_none_of_le (Nat.le_refl _)
 have fpo : ∀ b ∈ fp,∃ o,s2.heap.get? b = some o := fun b hb => by
  obtain ⟨o,e,_⟩ := T.obj 0 _ st2 b hb
  exact ⟨o,e⟩
 have fpC : ∀ b ∈ fp,b ≠ G2.objs.size := fun b hb => by
  obtain ⟨o,e⟩ := fpo b hb
  exact Nat.ne_of_lt (Heap.lt_size (up2 b o e))
 have H3C : (upd H2 s2.heap.objs.size (.lst [])) G2.objs.size = none := I3.hok.fresh (Nat.le_refl _)
 have fpD : ∀ b ∈ fp,b ≠ s2.heap.objs.size := fun b hb => by
  obtain ⟨o,e⟩ := fpo b hb
  exact Nat.ne_of_lt (Heap.lt_size e)
 have stkN : ∀ b ∈ fp,b ∉ frs X.stack := fun b hb z => by
  rcases List.mem_cons.mp (I3.stkSub b z) with y | y
  ·exact (f2 b hb).2.1 y
  ·exact (f2 b hb).2.2.1 y
 have ok' : (compX X nm scope own cl G2.objs.size { s2 with heap := G2 } (upd H2 s2.heap.objs.size (.lst [])) fp).Ok := by
  refine ⟨I3.ok.mod,S.kind,I3.ok.glob,I3.ok.blt,Nat.le_refl _,fun x y c e1 e2 => I3.ok.inj x y c (hcl1 x c e1) (hcl1 y c e2),fun x hx => ?_,fun x c z => (nomatch z),I3.ok.hd,I3.ok.frames,.inl rfl,
   fun b hb => ⟨fpC b hb,fun x c e => (f2 b hb).2.2.2.2.1 x c (hcl1 x c e)⟩,fun b o e => I3.bs b o e,Nat.le_trans I3.ok.bsz I3.sz,fun b o e hb => ?_,fun b hb => stkN b hb,I3.stack,I3.stkFree⟩
  ·have hx : (relabel scope X.env).names.lookup x = some .cell ∨ (relabel scope X.env).names.lookup x = some .free := hx
   have key : ∀ k,(relabel scope X.env).names.lookup x = some k → k ≠ .local → k = .cell ∨ k = .free → ∃ c,cl.lookup x = some c := fun k hk _ hkk => by
    obtain ⟨k0,e0,z⟩ := relabel_names X.env scope.names x k hk
    have m0 := PySem.mem_of_lookup e0
    have f0 : k0 = .free := by
     rcases z with z | z
     ·subst z
      rcases hkk with q | q
      ·exact absurd q (S.cell _ m0)
      ·exact q
     ·exact z.1
    exact hcl2 (x,k0) m0 f0
   rcases hx with hx | hx
   ·exact key _ hx (by decide) (.inl rfl)
   ·exact key _ hx (by decide) (.inr rfl)
  ·rcases (f2 b hb).2.2.2.1 with z | z
   ·exact I3.ok.noex b o e z
   ·exact absurd (Nat.lt_of_lt_of_le (Heap.lt_size e) (Nat.le_trans I3.ok.bsz z)) (Nat.lt_irrefl _)
 have stat : ∀ {H' : Hp},(∀ b ∈ fp,H' b = none) → ∀ b ∈ fp,FpOk (compX X nm scope own cl G2.objs.size { s2 with heap := G2 } (upd H2 s2.heap.objs.size (.lst [])) fp) [] H' b := fun hn b hb =>
  ⟨hn b hb,fpC b hb,stkN b hb,.inl hb,fun x c e => (f2 b hb).2.2.2.2.1 x c (hcl1 x c e),fun p hp => (nomatch (show p ∈ ([] : List (Addr × Obj)) from hp))⟩
 have I4 : Inv (compX X nm scope own cl G2.objs.size { s2 with heap := G2 } (upd H2 s2.heap.objs.size (.lst [])) fp) [] (σ ++ List.replicate own.length none) (upd H2 s2.heap.objs.size (.lst [])) { s2 with heap := h₁,toks := s2.toks + ([] : List (Str × Value)).length } := by
  refine ⟨ok',rfl,I3.bare,Un.kept up3,⟨_,hns₁,fun i x v e1 e2 e3 => ?_⟩,fun x c e => ?_,H3C,fun x c e => I3.freeC x c (hcl1 x c e),fun p hp => (nomatch (show p ∈ ([] : List (Addr × Obj)) from hp)),I3.hok.kept up3,?_⟩
  ·have e1 : (nm ++ own)[i]? = some x := e1
   have hi : i < σ.length := by
    by_cases hi : i < σ.length
    ·exact hi
    ·rw [List.getElem?_append_right (Nat.not_lt.mp hi),List.getElem?_replicate] at e2
     split at e2 <;> cases e2
   rw [List.getElem?_append_left hi] at e2
   rw [List.getElem?_append_left (by rw [S.len,← I3.len]; exact hi)] at e1
   have key : ∀ k,(relabel scope X.env).names.lookup x = some k → k = .local ∨ k = .cell ∨ k = .free → scope.names.lookup x = some .free ∧ (k = .cell ∨ k = .free) := fun k hk hkk => by
    obtain ⟨k0,e0,z⟩ := relabel_names X.env scope.names x k hk
    have m0 := PySem.mem_of_lookup e0
    have n1 : k0 ≠ .local := fun y => S.apart x (List.mem_of_getElem? e1) (y ▸ e0)
    have n2 : k0 ≠ .cell := S.cell _ m0
    rcases z with z | z
    ·subst z
     rcases hkk with q | q | q
     ·exact absurd q n1
     ·exact absurd q n2
     ·subst q; exact ⟨e0,.inr rfl⟩
    ·obtain ⟨z1,z2⟩ := z
     subst z1; subst z2
     exact ⟨e0,.inl rfl⟩
   have hk : ∃ k,(relabel scope X.env).names.lookup x = some k ∧ (k = .cell ∨ k = .free) ∧ scope.names.lookup x = some .free := by
    rcases (show (relabel scope X.env).names.lookup x = some .local ∨ (relabel scope X.env).names.lookup x = some .cell ∨ (relabel scope X.env).names.lookup x = some .free from e3) with q | q | q
    ·obtain ⟨a,b⟩ := key _ q (.inl rfl); exact ⟨_,q,b,a⟩
    ·obtain ⟨a,b⟩ := key _ q (.inr (.inl rfl)); exact ⟨_,q,b,a⟩
    ·obtain ⟨a,b⟩ := key _ q (.inr (.inr rfl)); exact ⟨_,q,b,a⟩
   obtain ⟨k,hk1,hk2,hk3⟩ := hk
   have m0 := PySem.mem_of_lookup hk3
   obtain ⟨c,hcc⟩ := hcl2 (x,.free) m0 rfl
   obtain ⟨m,hn,hl⟩ := I3.loc
   have hout := S.free (x,.free) m0 rfl
   have hvis : Vis X.env.scope x := by
    rcases hout with q | q
    ·exact .inr (.inl q)
    ·exact .inr (.inr q)
   have e1' : X.N[i]? = some x := by
    rcases S.mask i x e1 with z | z
    ·exact z
    ·rw [z] at hk3; cases hk3
   obtain ⟨u,ru,lk⟩ := hl i x v e1' e2 hvis
   refine ⟨u,ru,.inr ⟨?_,c,hcc,?_⟩⟩
   ·rcases hk2 with q | q
    ·subst q; exact .inl hk1
    ·subst q; exact .inr hk1
   ·rcases lk with ⟨q,_⟩ | ⟨_,c',e',z⟩
    ·rcases hout with y | y
     ·rw [q] at y; cases y
     ·rw [q] at y; cases y
    ·rw [hcl1 x c hcc] at e'
     cases e'
     obtain ⟨o,ho,hd⟩ := z
     exact ⟨o,up3 c o ho,hd⟩
  ·obtain ⟨v,o,ho,hd⟩ := I3.cell x c (hcl1 x c e)
   exact ⟨v,o,up3 c o ho,hd⟩
  ·show (σ ++ List.replicate own.length none).length = (nm ++ own).length
   rw [List.length_append,List.length_append,List.length_replicate,I3.len,S.len]
 obtain ⟨W,⟨m0,w0⟩,turn⟩ := hR s2.heap.objs.size I2.fresh
 have st4 : tn 0 h₁ := T.keep 0 _ _ st2 fun b hb o e => up3 b o (up2 b o e)
 have H3fp : ∀ b ∈ fp,(upd H2 s2.heap.objs.size (.lst [])) b = none := fun b hb => by rw [upd_ne (fpD b hb)]; exact (f2 b hb).1
 have loop : ∀ s₃ : Shared,s₃ = { s2 with heap := h₁,toks := s2.toks + ([] : List (Str × Value)).length } →
   codeAny (model X.prog X.w) X.A (.compLoop (.ListComp elt [⟨tg,iter,ifs,0⟩] scope pos) 0 (.ref it) (.ref s2.heap.objs.size) (compEnvC scope cl G2.objs.size X.env))
    (RR (.ref s2.heap.objs.size) G2.objs.size) s₃ := by
  rintro s₃ rfl
  refine compLoop_any (fun n s' => ∃ i σ' H',Inv (compX X nm scope own cl G2.objs.size { s2 with heap := G2 } (upd H2 s2.heap.objs.size (.lst [])) fp) [] σ' H' s' ∧ tn i s'.heap ∧ (∀ b ∈ fp,H' b = none) ∧ W i n σ' H') ?_ m0
   ⟨0,_,_,I4,st4,H3fp,w0⟩
  rintro n s5 ⟨i,σ5,H5,I5,st5,fr5,w5⟩
  rcases turn i n σ5 H5 w5 with ⟨stop,q⟩ | ⟨go,step⟩
  ·refine wpAny_mono (T.done (compX X nm scope own cl G2.objs.size { s2 with heap := G2 } (upd H2 s2.heap.objs.size (.lst [])) fp) rfl rfl rfl hc i [] s5 σ5 H5 (fun _ _ => False) I5 (stat fr5) st5 stop) (fun r s6 hr6 => ?_) no
   obtain ⟨hr,I6⟩ := hr6
   subst hr
   have I7 : Inv X pins σ H5 s6 := I3.call' (ch := fp) I6.os I6.base I6.hok I6.bare fun b hb => ⟨(f2 b hb).2.2.2.1,(f2 b hb).2.1,(f2 b hb).2.2.2.2.1,(f2 b hb).2.2.2.2.2⟩
   refine hfin _ _ H5 s6 I7 I6.free (Nat.ne_of_gt (show X.env.locals < G2.objs.size from I3.lt)) I3.sz (fun x c e => ?_) (fun p hp => ?_) (let ⟨m,hn,_⟩ := I6.loc; ⟨m,hn⟩) q
   ·obtain ⟨v,z⟩ := I3.cell x c e
    exact Nat.ne_of_lt z.lt
   ·exact Nat.ne_of_lt (Heap.lt_size (I3.pin p hp).1)
  ·refine wpAny_mono (T.item (compX X nm scope own cl G2.objs.size { s2 with heap := G2 } (upd H2 s2.heap.objs.size (.lst [])) fp) rfl rfl rfl hc i [] s5 σ5 H5 (fun _ _ => False) I5 (stat fr5) st5 go) (fun r s6 hr6 => ?_) no
   obtain ⟨u,hr,h6⟩ := hr6
   subst hr
   refine wpAny_mono h6 (fun _ s7 h7 => ?_) no
   obtain ⟨x,H7,I7,r7,y7,st7,fr7⟩ := h7
   have I7' := I7.pinned (stat fr7) (T.obj _ _ st7)
   have again : ∀ {s9 : Shared} {σ9 : L2.St} {H9 : Hp} {m' : Nat},m' < n → Inv (compX X nm scope own cl G2.objs.size { s2 with heap := G2 } (upd H2 s2.heap.objs.size (.lst [])) fp) ([] ++ pinsAt fp s7.heap) σ9 H9 s9 → W (i + 1) m' σ9 H9 →
     ∃ m,m < n ∧ ∃ i σ' H',Inv (compX X nm scope own cl G2.objs.size { s2 with heap := G2 } (upd H2 s2.heap.objs.size (.lst [])) fp) [] σ' H' s9 ∧ tn i s9.heap ∧ (∀ b ∈ fp,H' b = none) ∧ W i m σ' H' := fun {s9 σ9 H9 m'} hm I9 w9 => by
    refine ⟨m',hm,i + 1,σ9,H9,I9.unpinned,T.keep _ _ _ st7 fun b hb o e => (I9.pin (b,o) (List.mem_append_right _ (List.mem_append_right _ (mem_pinsAt hb e)))).1,fun b hb => ?_,w9⟩
    obtain ⟨o,e,d⟩ := T.obj _ _ st7 b hb
    exact (I9.pin (b,o) (List.mem_append_right _ (List.mem_append_right _ (mem_pinsAt hb e)))).2.1
   refine wpAny_mono (hg cl G2.objs.size _ _ fp _ s7 σ5 H7 x u _ I7' r7 (step x H7 y7)) (fun _ s8 h8 => ?_) no
   obtain ⟨σ8,H8,I8,q8⟩ := h8
   refine wpAny_mono (ht cl G2.objs.size _ _ fp _ s8 σ8 H8 _ I8 q8) (fun b s9 h9 => ?_) no
   obtain ⟨H9,I9,q9⟩ := h9
   cases b with
   | false =>
    rw [if_neg Bool.false_ne_true] at q9 ⊢
    obtain ⟨m',hm,w9⟩ := q9
    exact again hm I9 w9
   | true =>
    rw [if_pos rfl] at q9 ⊢
    refine wpAny_mono (he cl G2.objs.size _ _ fp _ s9 σ8 H9 _ I9 q9) (fun y s10 h10 => ?_) no
    obtain ⟨yv,H10,I10,r10,acc,hacc,hlen,m',hm,w10⟩ := h10
    refine wpAny_mono (mt_append (X := compX X nm scope own cl G2.objs.size { s2 with heap := G2 } (upd H2 s2.heap.objs.size (.lst [])) fp) _ s10 σ8 H10 (.ref s2.heap.objs.size) [yv] (.ref s2.heap.objs.size) [y] (fun _ H' => H' = upd H10 s2.heap.objs.size (.lst (acc ++ [yv]))) I10 rfl (.cons r10 .nil) ⟨_,acc,yv,rfl,rfl,hacc,hlen,rfl⟩) (fun _ s11 h11 => ?_) no
    obtain ⟨_,H11,I11,_,e11⟩ := h11
    subst e11
    exact again hm I11 w10
 exact codeAny_compStart_list (loop _ rfl) (T.self _ 0 _ _ _ st4 (loop _ rfl))
theorem pe_comp (hc : X.calm = true) (S : CScope X nm scope) (hi : PI X tg iter wi)
  (hg : ∀ cl C s H fp,PG (compX X nm scope own cl C s H fp) tg g) (ht : ∀ cl C s H fp,PTs (compX X nm scope own cl C s H fp) ifs tt) (he : ∀ cl C s H fp,PE (compX X nm scope own cl C s H fp) elt te)
  (hs : ∀ x,foldedSetIterable iter X.env x = pure x := by intro _; rfl) : PE X (.ListComp elt [⟨tg,iter,ifs,0⟩] scope pos) (tLC wi own.length g tt te) := by
 intro pins s σ H Q I h
 obtain ⟨cl,hclos,hcl1,hcl2⟩ := closure_of (env := X.env) (scope := scope) fun y hy hf => I.ok.has y.1 (S.free y hy hf)
 rw [eval_ListComp]
 refine wpAny_comprehension_free (use := none) rfl hs hclos S.kind S.names (thn (hi pins s σ H _ I h) fun v s1 h1 => thn h1 fun itv s2 h2 => ?_)
 obtain ⟨it,fp,tn,J,H2,e,I2,T,st2,f2,hR⟩ := h2
 subst e
 refine comp_core (Q := Q) (RR := fun acc C => compPost (model X.prog X.w) X.A X.xe none (EP X pins σ Q) acc C) hc S hcl1 hcl2 hg ht he I2 T st2 f2 hR ?_
 intro D C H6 s6 I6 hCn hCL hCs hCc hCp hns q
 obtain ⟨m,hn⟩ := hns
 refine ⟨m,hn,fun h' hs' => ⟨.ref D,H6,I6.turned (t' := s6.toks) (fun b o hb e => (hs'.2 b hb).trans e) hCn hCL (.inr hCs) hCc hCp,rfl,q⟩⟩
theorem ps_set_comp {i : Nat} {y : Str} {py spos : Pos} (hN : X.N.Nodup) (hi' : X.N[i]? = some y) (hy : Loc X.env.scope y) (hc : X.calm = true) (S : CScope X nm scope) (hi : PI X tg iter wi)
  (hg : ∀ cl C s H fp,PG (compX X nm scope own cl C s H fp) tg g) (ht : ∀ cl C s H fp,PTs (compX X nm scope own cl C s H fp) ifs tt) (he : ∀ cl C s H fp,PE (compX X nm scope own cl C s H fp) elt te)
  (hsw : swapsWith (.ListComp elt [⟨tg,iter,ifs,0⟩] scope pos) (some (.Name y py)) spos.line X.env = pure true := by rfl)
  (hs : ∀ x,foldedSetIterable iter X.env x = pure x := by intro _; rfl) (hf : X.fn y = true ∨ X.env.scope.names.lookup y = some .local := by first | exact .inl rfl | exact .inr rfl | assumption) :
  PS X (.Assign [.Name y py] (.ListComp elt [⟨tg,iter,ifs,0⟩] scope pos) spos) (tAsg (tLC wi own.length g tt te) (gName i)) := by
 intro pins s σ H Dn I h
 obtain ⟨cl,hclos,hcl1,hcl2⟩ := closure_of (env := X.env) (scope := scope) fun y hy hf => I.ok.has y.1 (S.free y hy hf)
 rw [exec_Assign_Name_used _ _ _ _ hsw]
 refine wpAny_bind (wpAny_standAt (wpAny_bind ?_))
 show wpAny _ X.A (do let _ ← comprehension (.ListComp elt [⟨tg,iter,ifs,0⟩] scope pos) scope X.env _ (newList []) false (eval iter X.env) (some (assign (.Name y py) X.env))) _ _ s
 refine wpAny_bind (wpAny_mono (wpAny_comprehension_free (use := some (assign (.Name y py) X.env)) (Q := fun _ s' => SP X pins Dn .next s') rfl hs hclos S.kind S.names
  (thn (hi pins s σ H _ I h) fun v s1 h1 => thn h1 fun itv s2 h2 => ?_)) (fun _ s' hq => wpAny_pure (wpAny_pure hq)) fun _ _ e => e)
 obtain ⟨it,fp,tn,J,H2,e,I2,T,st2,f2,hR⟩ := h2
 subst e
 refine comp_core (Q := fun x H1 => gName i x σ H1 Dn.nx) (RR := fun acc C => compPost (model X.prog X.w) X.A X.xe (some (assign (.Name y py) X.env)) (fun _ s' => SP X pins Dn .next s') acc C) hc S hcl1 hcl2 hg ht he I2 T st2 f2 hR ?_
 intro D C H6 s6 I6 hCn hCL hCs hCc hCp hns q
 obtain ⟨m,hn⟩ := hns
 show wpAny _ X.A (assign (.Name y py) X.env (.ref D)) _ _ _
 refine wpAny_assign_Name (store_ok2 I6 hN hi' hy (v := .ref D) rfl (fun s7 I7 h7 => ?_) hf)
 obtain ⟨a,sb,ha⟩ := h7
 have hCa : C ≠ a := by
  rcases ha with ha | ha
  ·rw [ha]; exact hCL
  ·exact Ne.symm (hCc y a ha)
 refine ⟨m,hn.sameBut sb hCa,fun h' hs' => ⟨_,H6,I7.turned (t' := s7.toks) (fun b o hb e => (hs'.2 b hb).trans e) hCn hCL (.inr hCs) hCc hCp,q⟩⟩
end
mutual
def toPy : Dm.Dat → PyData
 | .non => .none
 | .bl b => .bool b
 | .int i => .int i
 | .str s => .str ⟨s.toArray⟩
 | .tup xs => .tuple (toPys xs)
 | .lst xs => .list (toPys xs)
 | .dct _ _ => .dict []
 | .exc _ => .dict []
 | .fn _ => .dict []
def toPys : List Dm.Dat → List PyData
 | [] => []
 | x :: xs => toPy x :: toPys xs
end
mutual
theorem eqv_toPy : ∀ a b : Dm.Dat,PyData.eqv (toPy a) (toPy b) = Dm.eqD a b
 | .non,b => by cases b <;> simp [toPy,PyData.eqv,Dm.eqD]
 | .bl x,b => by cases b <;> simp [toPy,PyData.eqv,Dm.eqD,Dm.b2i]
 | .int x,b => by cases b <;> simp [toPy,PyData.eqv,Dm.eqD,Dm.b2i]
 | .str x,b => by
  cases b with
  | str y =>
   simp only [toPy,PyData.eqv,Dm.eqD]
   rw [Bool.eq_iff_iff]
   simp only [beq_iff_eq]
   constructor
   ·intro h
    have h := congrArg (fun s : Str => s.cps.toList) h
    simpa using h
   ·rintro rfl
    rfl
  | _ => simp [toPy,PyData.eqv,Dm.eqD]
 | .tup xs,b => by
  cases b with
  | tup ys => simp only [toPy,PyData.eqv,Dm.eqD]; exact eqvs_toPy xs ys
  | _ => simp [toPy,PyData.eqv,Dm.eqD]
 | .lst xs,b => by
  cases b with
  | lst ys => simp only [toPy,PyData.eqv,Dm.eqD]; exact eqvs_toPy xs ys
  | _ => simp [toPy,PyData.eqv,Dm.eqD]
 | .dct ks vs,b => by cases b <;> simp [toPy,PyData.eqv,Dm.eqD]
 | .exc C,b => by cases b <;> simp [toPy,PyData.eqv,Dm.eqD]
 | .fn C,b => by cases b <;> simp [toPy,PyData.eqv,Dm.eqD]
theorem eqvs_toPy : ∀ a b : List Dm.Dat,PyData.eqvAll (toPys a) (toPys b) = Dm.eqDs a b
 | [],b => by cases b <;> simp [toPys,PyData.eqvAll,Dm.eqDs]
 | x :: xs,b => by
  cases b with
  | nil => simp [toPys,PyData.eqvAll,Dm.eqDs]
  | cons y ys => simp only [toPys,PyData.eqvAll,Dm.eqDs]; rw [eqv_toPy x y,eqvs_toPy xs ys]
end
theorem str_ok {s : List Nat} (h : (s.all fun c => decide (c < 128)) = true) : PyData.strOk ⟨s.toArray⟩ = true := by
 unfold PyData.strOk
 rw [Array.all_eq_true']
 intro c hc
 have h1 := List.all_eq_true.mp h c (by simpa using hc)
 have h2 : c < 128 := of_decide_eq_true h1
 exact decide_eq_true (by omega)
theorem reads_of {P : Program} {w : World} {H : Hp} {h : Heap} (ok : HOk P w H h) : ∀ (n : Nat),
  (∀ (v : V) (d : Dm.Dat) (u : Value),Rep H v d → RelV v u → Dm.okD n d = true → ∃ as,Reads h u (toPy d) as ∧ (toPy d).canLay0 = true ∧ (toPy d).depth ≤ n) ∧
  (∀ (vs : List V) (ds : List Dm.Dat) (us : List Value),Reps H vs ds → Vals vs us → ds.all (Dm.okD n) = true → ∃ as,ReadsAll h us (toPys ds) as ∧ PyData.canLayAll0 (toPys ds) = true ∧ PyData.depthAll (toPys ds) ≤ n) := by
 intro n
 induction n with
 | zero =>
  have one : ∀ (v : V) (d : Dm.Dat) (u : Value),Rep H v d → RelV v u → Dm.okD 0 d = true → ∃ as,Reads h u (toPy d) as ∧ (toPy d).canLay0 = true ∧ (toPy d).depth ≤ 0 := by
   intro v d u r rv k
   cases r with
   | non => cases rv; exact ⟨_,.none,rfl,Nat.le_refl _⟩
   | bl b => cases rv; exact ⟨_,.bool b,rfl,Nat.le_refl _⟩
   | int i => obtain ⟨t,rfl⟩ := rv; exact ⟨_,.int i t,rfl,Nat.le_refl _⟩
   | str s => obtain ⟨t,rfl⟩ := rv; exact ⟨_,.str _ t,str_ok k,Nat.le_refl _⟩
   | tup _ _ => cases k
   | lst _ _ => cases k
   | dct _ _ _ => cases k
   | exc _ => cases k
   | fn _ => cases k
  refine ⟨one,fun vs ds => ?_⟩
  induction ds generalizing vs with
  | nil => intro us r rv _; cases r; cases rv; exact ⟨_,.nil,rfl,Nat.le_refl _⟩
  | cons d ds ih =>
   intro us r rv k
   cases r with
   | cons r rs =>
    cases rv with
    | cons q qs =>
     rw [List.all_cons,Bool.and_eq_true] at k
     obtain ⟨a1,h1,h2,h3⟩ := one _ _ _ r q k.1
     obtain ⟨a2,h4,h5,h6⟩ := ih _ _ rs qs k.2
     exact ⟨_,.cons h1 h4,by simp [toPys,PyData.canLayAll0,h2,h5],by simp only [toPys,PyData.depthAll]; omega⟩
 | succ n ih =>
  have one : ∀ (v : V) (d : Dm.Dat) (u : Value),Rep H v d → RelV v u → Dm.okD (n + 1) d = true → ∃ as,Reads h u (toPy d) as ∧ (toPy d).canLay0 = true ∧ (toPy d).depth ≤ n + 1 := by
   intro v d u r rv k
   cases r with
   | non => cases rv; exact ⟨_,.none,rfl,Nat.zero_le _⟩
   | bl b => cases rv; exact ⟨_,.bool b,rfl,Nat.zero_le _⟩
   | int i => obtain ⟨t,rfl⟩ := rv; exact ⟨_,.int i t,rfl,Nat.zero_le _⟩
   | str s => obtain ⟨t,rfl⟩ := rv; exact ⟨_,.str _ t,str_ok k,Nat.zero_le _⟩
   | tup q rs =>
    cases rv
    obtain ⟨z,its,vr,ob,e,hc,m,hd⟩ := ok _ _ q
    obtain ⟨as,h1,h2,h3⟩ := ih.2 _ _ _ rs vr k
    exact ⟨_,.tuple e hc hd h1,h2,by simp only [toPy,PyData.depth]; omega⟩
   | lst q rs =>
    cases rv
    obtain ⟨z,its,m,vr,e⟩ := q.ok ok
    obtain ⟨as,h1,h2,h3⟩ := ih.2 _ _ _ rs vr k
    exact ⟨_,.list e rfl rfl h1,h2,by simp only [toPy,PyData.depth]; omega⟩
   | dct _ _ _ => cases k
   | exc _ => cases k
   | fn _ => cases k
  refine ⟨one,fun vs ds => ?_⟩
  induction ds generalizing vs with
  | nil => intro us r rv _; cases r; cases rv; exact ⟨_,.nil,rfl,Nat.zero_le _⟩
  | cons d ds ih =>
   intro us r rv k
   cases r with
   | cons r rs =>
    cases rv with
    | cons q qs =>
     rw [List.all_cons,Bool.and_eq_true] at k
     obtain ⟨a1,h1,h2,h3⟩ := one _ _ _ r q k.1
     obtain ⟨a2,h4,h5,h6⟩ := ih _ _ rs qs k.2
     exact ⟨_,.cons h1 h4,by simp [toPys,PyData.canLayAll0,h2,h5],by simp only [toPys,PyData.depthAll]; omega⟩
theorem RepO.full {H0 H : Hp} (s : Same H0 H) {v : V} {d : Dm.Dat} (r : RepO H0 H v d) : Rep H v d := by
 rcases r with r | ⟨a,rfl,w⟩
 ·exact r.mono s
 ·cases d with
  | lst ds => obtain ⟨xs,q,rs⟩ := w; exact .lst (.inl q) (rs.mono s)
  | dct ks ds => obtain ⟨kvs,q,e,rs⟩ := w; exact .dct q e (rs.mono s)
  | _ => exact False.elim w
def rEqD (neg : Bool) : R2 := fun x y H Q => ∃ dx dy,Rep H x dx ∧ Rep H y dy ∧ Dm.okD 8 dx = true ∧ Dm.okD 8 dy = true ∧ Q (.bl (if neg then !Dm.eqD dx dy else Dm.eqD dx dy)) H
section
variable {X : Cx}
theorem op_eqD {k : Nat} (hr : Room k X.A) : OpR X (compareOp .Eq) (rEqD false) := by
 intro pins s σ H x y v u Q I rx ry h
 obtain ⟨dx,dy,r1,r2,k1,k2,q⟩ := h
 obtain ⟨as,h1,h2,h3⟩ := (reads_of I.hok 8).1 x dx v r1 rx k1
 obtain ⟨bs,h4,h5,h6⟩ := (reads_of I.hok 8).1 y dy u r2 ry k2
 have hu := hr.units
 refine PySem.SeqAt.compareEq_reads h1 h4 h2 h5 (by omega) ?_
 rw [eqv_toPy]
 exact ⟨.bl (Dm.eqD dx dy),H,I,rfl,q⟩
theorem op_neD {k : Nat} (hr : Room k X.A) : OpR X (compareOp .NotEq) (rEqD true) := by
 intro pins s σ H x y v u Q I rx ry h
 obtain ⟨dx,dy,r1,r2,k1,k2,q⟩ := h
 obtain ⟨as,h1,h2,h3⟩ := (reads_of I.hok 8).1 x dx v r1 rx k1
 obtain ⟨bs,h4,h5,h6⟩ := (reads_of I.hok 8).1 y dy u r2 ry k2
 have hu := hr.units
 refine PySem.SeqAt.compareNe_reads h1 h4 h2 h5 (by omega) ?_
 rw [eqv_toPy]
 exact ⟨.bl (!Dm.eqD dx dy),H,I,rfl,q⟩
def rInD (neg : Bool) : R2 := fun x y H Q => ∃ dx ds,Rep H x dx ∧ (Rep H y (.lst ds) ∨ Rep H y (.tup ds)) ∧ Dm.okD 8 dx = true ∧ ds.all (Dm.okD 7) = true ∧ Q (.bl (if neg then !Dm.inD dx ds else Dm.inD dx ds)) H
theorem any_toPy (x : Dm.Dat) : ∀ ds : List Dm.Dat,((toPys ds).any fun y => PyData.eqv y (toPy x)) = Dm.inD x ds
 | [] => rfl
 | d :: ds => by
  have := any_toPy x ds
  unfold Dm.inD at this ⊢
  simp only [toPys,List.any_cons,eqv_toPy]
  rw [this]
theorem op_inD {k : Nat} (hr : Room k X.A) : OpR X (compareOp .In) (rInD false) := by
 intro pins s σ H x y v u Q I rx ry h
 obtain ⟨dx,ds,r1,r2,k1,k2,q⟩ := h
 obtain ⟨as,h1,h2,h3⟩ := (reads_of I.hok 8).1 x dx v r1 rx k1
 have hu := hr.units
 rcases r2 with r2 | r2
 ·obtain ⟨bs,h4,h5,h6⟩ := (reads_of I.hok 8).1 y (.lst ds) u r2 ry k2
  have h6 : PyData.depthAll (toPys ds) + 1 ≤ 8 := h6
  refine PySem.SeqAt.in_list_reads h4 h1 h5 h2 (by omega) ?_
  rw [any_toPy]
  exact ⟨.bl (Dm.inD dx ds),H,I,rfl,q⟩
 ·obtain ⟨bs,h4,h5,h6⟩ := (reads_of I.hok 8).1 y (.tup ds) u r2 ry k2
  have h6 : PyData.depthAll (toPys ds) + 1 ≤ 8 := h6
  refine PySem.SeqAt.in_tuple_reads h4 h1 h5 h2 (by omega) ?_
  rw [any_toPy]
  exact ⟨.bl (Dm.inD dx ds),H,I,rfl,q⟩
end
theorem repO_int {H0 H : Hp} {v : V} {i : Int} (r : RepO H0 H v (.int i)) : v = .int i := by
 rcases r with r | ⟨a,_,w⟩
 ·exact Rep.isInt r
 ·exact False.elim w
theorem repO_bl {H0 H : Hp} {v : V} {b : Bool} (r : RepO H0 H v (.bl b)) : v = .bl b := by
 rcases r with r | ⟨a,_,w⟩
 ·exact Rep.isBl r
 ·exact False.elim w
theorem repO_lst {H0 H : Hp} (s : Same H0 H) {v : V} {ds : List Dm.Dat} (r : RepO H0 H v (.lst ds)) : ∃ a xs,v = .ref a ∧ Rd H a (.lst xs) ∧ Reps H0 xs ds := by
 rcases r with r | ⟨a,e,xs,q,rs⟩
 ·cases r with
  | lst q rs => exact ⟨_,_,rfl,Same.rd s q,rs⟩
 ·exact ⟨a,xs,e,.inl q,rs⟩
theorem repO_tup {H0 H : Hp} (s : Same H0 H) {v : V} {ds : List Dm.Dat} (r : RepO H0 H v (.tup ds)) : ∃ a xs,v = .ref a ∧ H a = some (.tup xs) ∧ Reps H0 xs ds := by
 rcases r with r | ⟨a,_,w⟩
 ·cases r with
  | tup q rs => exact ⟨_,_,rfl,s _ _ q,rs⟩
 ·exact False.elim w
theorem od_sub : OpD (rI0 fun i j => .int (i - j)) Dm.gSub := by
 intro H0 H x y dx dy z Q s rx ry e k
 unfold Dm.gSub at e
 split at e
 ·cases e; cases repO_int rx; cases repO_int ry
  exact ⟨_,_,rfl,rfl,k _ H0 H (Grow.refl s) (.int _)⟩
 ·cases e
theorem od_lt : OpD (rI0 fun i j => .bl (decide (i < j))) Dm.gLt := by
 intro H0 H x y dx dy z Q s rx ry e k
 unfold Dm.gLt at e
 split at e
 ·cases e; cases repO_int rx; cases repO_int ry
  exact ⟨_,_,rfl,rfl,k _ H0 H (Grow.refl s) (.bl _)⟩
 ·cases e
theorem od_le : OpD (rI0 fun i j => .bl (decide (i ≤ j))) Dm.gLe := by
 intro H0 H x y dx dy z Q s rx ry e k
 unfold Dm.gLe at e
 split at e
 ·cases e; cases repO_int rx; cases repO_int ry
  exact ⟨_,_,rfl,rfl,k _ H0 H (Grow.refl s) (.bl _)⟩
 ·cases e
theorem od_gt : OpD (rI0 fun i j => .bl (decide (j < i))) Dm.gGt := by
 intro H0 H x y dx dy z Q s rx ry e k
 unfold Dm.gGt at e
 split at e
 ·cases e; cases repO_int rx; cases repO_int ry
  exact ⟨_,_,rfl,rfl,k _ H0 H (Grow.refl s) (.bl _)⟩
 ·cases e
theorem od_ge : OpD (rI0 fun i j => .bl (decide (j ≤ i))) Dm.gGe := by
 intro H0 H x y dx dy z Q s rx ry e k
 unfold Dm.gGe at e
 split at e
 ·cases e; cases repO_int rx; cases repO_int ry
  exact ⟨_,_,rfl,rfl,k _ H0 H (Grow.refl s) (.bl _)⟩
 ·cases e
theorem od_mod : OpD (rI (fun _ j => 0 < j) fun i j => .int (i % j)) Dm.gMod := by
 intro H0 H x y dx dy z Q s rx ry e k
 unfold Dm.gMod at e
 split at e
 ·split at e
  ·rename_i hj
   cases e; cases repO_int rx; cases repO_int ry
   exact ⟨_,_,rfl,rfl,hj,k _ H0 H (Grow.refl s) (.int _)⟩
  ·cases e
 ·cases e
theorem od_pow : OpD (rI CPow fun i j => .int (i ^ j.toNat)) Dm.gPow := by
 intro H0 H x y dx dy z Q s rx ry e k
 unfold Dm.gPow at e
 split at e
 ·split at e
  ·rename_i hj
   cases e; cases repO_int rx; cases repO_int ry
   exact ⟨_,_,rfl,rfl,⟨hj.1,hj.2.1,Nat.lt_trans hj.2.2 (by decide)⟩,k _ H0 H (Grow.refl s) (.int _)⟩
  ·cases e
 ·cases e
section
variable {X : Cx}
def CDiv2 (i j : Int) : Prop := 0 < j ∧ j < Dm.B200
theorem op_fdiv2 : OpR X (binaryOp .FloorDiv) (rI CDiv2 fun i j => .int (i / j)) := opI fun i j _ _ _ _ _ hc q => by
 have h : j.natAbs.log2 < 9000 := by
  have h1 : j.natAbs < 2 ^ 200 := by
   have := hc.2
   unfold Dm.B200 at this
   have h2 := hc.1
   have e : (2 : Nat) ^ 200 = 1606938044258990275541962092341162602522202993782792835301376 := by decide +kernel
   omega
  have h3 : j.natAbs ≠ 0 := by have := hc.1; omega
  have := (Nat.log2_lt h3).mpr h1
  omega
 have e : i.fdiv j = i / j := Int.fdiv_eq_ediv_of_nonneg i (Int.le_of_lt hc.1)
 rw [← e] at q
 exact floordiv_int (Int.ne_of_gt hc.1) q (.inl (PyProof.noPylong_of_log2 h))
end
theorem od_div : OpD (rI CDiv2 fun i j => .int (i / j)) Dm.gDiv := by
 intro H0 H x y dx dy z Q s rx ry e k
 unfold Dm.gDiv at e
 split at e
 ·split at e
  ·rename_i hj
   cases e; cases repO_int rx; cases repO_int ry
   exact ⟨_,_,rfl,rfl,hj,k _ H0 H (Grow.refl s) (.int _)⟩
  ·cases e
 ·cases e
theorem od_neg : UnD (rU fun i => .int (-i)) Dm.gNeg := by
 intro H0 H x dx z Q s rx e k
 unfold Dm.gNeg at e
 split at e
 ·cases e; cases repO_int rx
  exact ⟨_,rfl,k _ H0 H (Grow.refl s) (.int _)⟩
 ·cases e
def rCatR : R2 := fun x y H Q => ∃ l b xs zs,x = .ref l ∧ y = .ref b ∧ Rd H l (.lst xs) ∧ Rd H b (.lst zs) ∧ xs.length + zs.length ≤ sizeLine ∧ ∀ p,H p = none → Q (.ref p) (upd H p (.lst (xs ++ zs)))
def rRepR : R2 := fun x y H Q => ∃ l k xs,x = .ref l ∧ y = .int k ∧ Rd H l (.lst xs) ∧ -(2 ^ 63) ≤ k ∧ k < 2 ^ 63 ∧ xs.length * k.toNat ≤ sizeLine ∧
 ∀ p,H p = none → Q (.ref p) (upd H p (.lst (List.replicate k.toNat xs).flatten))
section
variable {X : Cx}
theorem op_catR : OpR X (binaryOp .Add) rCatR := by
 intro pins s σ H x y v u Q I rx ry h
 obtain ⟨l,b,xs,zs,rfl,rfl,hH,hB,hz,q⟩ := h
 cases rx
 cases ry
 obtain ⟨z,its,n,r,e⟩ := hH.ok I.hok
 obtain ⟨z2,its2,n2,r2,e2⟩ := hB.ok I.hok
 have hl := r.length
 have hl2 := r2.length
 refine PySem.P.add_list e e2 ?_ (by rw [List.size_toArray,List.size_toArray]; omega)
 have ea : its.toArray ++ its2.toArray = (its ++ its2).toArray := by simp
 rw [ea]
 exact ⟨.ref _,_,I.lnew (t' := s.toks) (r.append r2) (by rw [List.length_append]; omega),rfl,q _ I.fresh⟩
theorem op_repR : OpR X (binaryOp .Mult) rRepR := by
 intro pins s σ H x y v u Q I rx ry h
 obtain ⟨l,k,xs,rfl,rfl,hH,h1,h2,hz,q⟩ := h
 cases rx
 obtain ⟨t,rfl⟩ := ry
 obtain ⟨z,its,n,r,e⟩ := hH.ok I.hok
 have hl := r.length
 have hlen : its.toArray.size * k.toNat ≤ sizeLine := by rw [List.size_toArray,← hl]; exact hz
 have hcap : ¬ its.toArray.size * k.toNat > (2 ^ 63 - 1) / 8 := by
  have : (sizeLine : Nat) ≤ (2 ^ 63 - 1) / 8 := by decide
  omega
 have hfit : ¬ (!Builtin.List.listFitsIndex k) = true := by
  rw [fitsIndex_both h1 h2]
  exact Bool.false_ne_true
 have hlong : ¬ Builtin.List.listTooLong (its.toArray.size * k.toNat) = true := by
  rw [notLongL hlen]
  exact Bool.false_ne_true
 have hnew : List.foldl (fun x1 x2 => x1 ++ x2) #[] (List.replicate (if its.toArray.isEmpty = true then 0 else k.toNat) its.toArray) = (List.replicate k.toNat its).flatten.toArray := by
  have f0 : ∀ m : Nat,List.foldl (fun x1 x2 => x1 ++ x2) #[] (List.replicate m its.toArray) = (List.replicate m its).flatten.toArray := fun m => by
   have := foldl_rep its m []
   rw [List.nil_append] at this
   exact this
  rw [f0]
  cases its with
  | nil => simp
  | cons a r' => rw [if_neg (by simp)]
 refine wpAny_binaryOp_repeat_ref (T := "list") (U := "int") (by decide) ⟨_, e, rfl⟩ (fun s' => typeIs_int s' k t) noFill_list_mul F.fills_int_mul F.slot_int_rmul repeat_list F.slot_int_index.lookup
  (call_meets F.slot_int_rmul (typeIs_int s k t) F.entry_int_rmul (F.args_int_rmul_2 _ _) (int___rmul___int_list k t l its.toArray n)
   ⟨e,rfl,⟨_,e,rfl⟩,call_meets F.slot_list_mul ⟨_,e,rfl⟩ F.entry_list_mul (F.args_list_mul_2 _ _) (AutoListH.list___mul___list_int_3 l its.toArray n k t hfit hcap hlong) ⟨e,?_⟩⟩)
 rw [hnew]
 exact ⟨.ref _,_,I.lnew (t' := s.toks) (r.rep k.toNat) (by rw [len_rep,Nat.mul_comm]; exact hz),rfl,q _ I.fresh⟩
theorem op_addD : OpR X (binaryOp .Add) (fun x y H Q => rI0 (fun i j => .int (i + j)) x y H Q ∨ rCatR x y H Q) := op_add.or op_catR
theorem op_mulD : OpR X (binaryOp .Mult) (fun x y H Q => rI CMul (fun i j => .int (i * j)) x y H Q ∨ rRepR x y H Q) := op_mul.or op_repR
end
theorem od_add : OpD (fun x y H Q => rI0 (fun i j => .int (i + j)) x y H Q ∨ rCatR x y H Q) Dm.gAdd := by
 intro H0 H x y dx dy z Q s rx ry e k
 unfold Dm.gAdd at e
 split at e
 ·cases e; cases repO_int rx; cases repO_int ry
  exact .inl ⟨_,_,rfl,rfl,k _ H0 H (Grow.refl s) (.int _)⟩
 ·split at e
  ·rename_i hz
   cases e
   obtain ⟨a,us,rfl,qa,ra⟩ := repO_lst s rx
   obtain ⟨b,ws,rfl,qb,rb⟩ := repO_lst s ry
   refine .inr ⟨a,b,us,ws,rfl,rfl,qa,qb,by rw [ra.length,rb.length]; exact sz_line hz,fun p hp => ?_⟩
   exact k _ _ _ (Grow.newO s hp) ⟨p,rfl,hp,s.free hp,_,upd_same,ra.append rb⟩
  ·cases e
 ·cases e
theorem od_mul : OpD (fun x y H Q => rI CMul (fun i j => .int (i * j)) x y H Q ∨ rRepR x y H Q) Dm.gMul := by
 intro H0 H x y dx dy z Q s rx ry e k
 unfold Dm.gMul at e
 split at e
 ·split at e
  ·rename_i hj
   cases e; cases repO_int rx; cases repO_int ry
   exact .inl ⟨_,_,rfl,rfl,hj,k _ H0 H (Grow.refl s) (.int _)⟩
  ·cases e
 ·split at e
  ·rename_i hz
   cases e; cases repO_int ry
   obtain ⟨a,us,rfl,qa,ra⟩ := repO_lst s rx
   obtain ⟨h1,h2,h3⟩ := hz
   unfold Dm.BIG at h1 h2
   refine .inr ⟨a,_,us,rfl,rfl,qa,by omega,by omega,by rw [ra.length]; exact sz_line h3,fun p hp => ?_⟩
   exact k _ _ _ (Grow.newO s hp) ⟨p,rfl,hp,s.free hp,_,upd_same,ra.rep _⟩
  ·cases e
 ·cases e
theorem od_eq : OpD (rEqD false) Dm.gEq := by
 intro H0 H x y dx dy z Q s rx ry e k
 unfold Dm.gEq at e
 split at e
 ·rename_i hk
  rw [Bool.and_eq_true] at hk
  cases e
  exact ⟨dx,dy,rx.full s,ry.full s,hk.1,hk.2,k _ H0 H (Grow.refl s) (.bl _)⟩
 ·cases e
theorem od_ne : OpD (rEqD true) Dm.gNe := by
 intro H0 H x y dx dy z Q s rx ry e k
 unfold Dm.gNe at e
 split at e
 ·rename_i hk
  rw [Bool.and_eq_true] at hk
  cases e
  exact ⟨dx,dy,rx.full s,ry.full s,hk.1,hk.2,k _ H0 H (Grow.refl s) (.bl _)⟩
 ·cases e
theorem od_in : OpD (rInD false) Dm.gIn := by
 intro H0 H x y dx dy z Q s rx ry e k
 unfold Dm.gIn at e
 split at e
 ·split at e
  ·rename_i hk
   rw [Bool.and_eq_true] at hk
   cases e
   exact ⟨dx,_,rx.full s,.inl (ry.full s),hk.1,hk.2,k _ H0 H (Grow.refl s) (.bl _)⟩
  ·cases e
 ·split at e
  ·rename_i hk
   rw [Bool.and_eq_true] at hk
   cases e
   exact ⟨dx,_,rx.full s,.inr (ry.full s),hk.1,hk.2,k _ H0 H (Grow.refl s) (.bl _)⟩
  ·cases e
 ·cases e
theorem reps_at {H0 : Hp} {xs : List V} {ds : List Dm.Dat} {i : Int} {d : Dm.Dat} (rs : Reps H0 xs ds) (e : Dm.atI ds i = some d) : ∃ v,L2.atI xs i = some v ∧ Rep H0 v d := by
 unfold Dm.atI at e
 cases q : Dm.ixN ds.length i with
 | none => rw [q] at e; cases e
 | some j =>
  rw [q] at e
  obtain ⟨v,hv,r⟩ := rs.get (i := j) e
  refine ⟨v,?_,r⟩
  unfold L2.atI
  rw [rs.length]
  have q' : L2.ixN ds.length i = some j := q
  rw [q']
  exact hv
theorem od_ix {K : PySem.W.Frag} : OpD (fun x y H Q => rIxL K x y H Q ∨ rIxT K x y H Q) Dm.gIx := by
 intro H0 H x y dx dy z Q s rx ry e k
 unfold Dm.gIx at e
 split at e
 ·rename_i ds i
  cases q : Dm.atI ds i with
  | none => rw [q] at e; cases e
  | some d =>
   rw [q] at e; cases e
   cases repO_int ry
   obtain ⟨a,us,rfl,qa,ra⟩ := repO_lst s rx
   obtain ⟨v,hv,rv⟩ := reps_at ra q
   exact .inl ⟨a,us,i,v,rfl,rfl,.inl qa,hv,k _ H0 H (Grow.refl s) rv⟩
 ·rename_i ds i
  cases q : Dm.atI ds i with
  | none => rw [q] at e; cases e
  | some d =>
   rw [q] at e; cases e
   cases repO_int ry
   obtain ⟨a,us,rfl,qa,ra⟩ := repO_tup s rx
   obtain ⟨v,hv,rv⟩ := reps_at ra q
   exact .inr ⟨a,us,i,v,rfl,rfl,.inl (.inl qa),hv,k _ H0 H (Grow.refl s) rv⟩
 ·cases e
theorem cd_len {K : PySem.W.Frag} : CallD (fun xs H Q => ∃ p ys,xs = [.ref p] ∧ (SqL K H p ys ∨ SqT K H p ys) ∧ Q (.int ys.length) H) Dm.gLen := by
 intro H0 H vs ds z Q s rs e k
 unfold Dm.gLen at e
 split at e
 ·cases e
  cases rs with
  | cons r rr =>
   cases rr
   obtain ⟨a,us,rfl,qa,ra⟩ := repO_lst s r
   exact ⟨a,us,rfl,.inl (.inl qa),k _ H0 H (Grow.refl s) (by rw [ra.length]; exact .int _)⟩
 ·cases e
  cases rs with
  | cons r rr =>
   cases rr
   obtain ⟨a,us,rfl,qa,ra⟩ := repO_tup s r
   exact ⟨a,us,rfl,.inr (.inl (.inl qa)),k _ H0 H (Grow.refl s) (by rw [ra.length]; exact .int _)⟩
 ·cases e
theorem cd_min2 : CallD (fun xs H Q => ∃ i j,xs = [.int i,.int j] ∧ Q (.int (if j < i then j else i)) H) Dm.gMin2 := by
 intro H0 H vs ds z Q s rs e k
 unfold Dm.gMin2 at e
 split at e
 ·cases e
  cases rs with
  | cons r rr =>
   cases rr with
   | cons r' rr =>
    cases rr
    cases repO_int r; cases repO_int r'
    exact ⟨_,_,rfl,k _ H0 H (Grow.refl s) (.int _)⟩
 ·cases e
theorem cd_max2 : CallD (fun xs H Q => ∃ i j,xs = [.int i,.int j] ∧ Q (.int (if j > i then j else i)) H) Dm.gMax2 := by
 intro H0 H vs ds z Q s rs e k
 unfold Dm.gMax2 at e
 split at e
 ·cases e
  cases rs with
  | cons r rr =>
   cases rr with
   | cons r' rr =>
    cases rr
    cases repO_int r; cases repO_int r'
    exact ⟨_,_,rfl,k _ H0 H (Grow.refl s) (.int _)⟩
 ·cases e
theorem cd_list {K : PySem.W.Frag} : CallD (fun xs H Q => ∃ p ys,xs = [.ref p] ∧ (SqL K H p ys ∨ SqT K H p ys) ∧ ∀ l,H l = none → Q (.ref l) (upd H l (.lst ys))) Dm.gList := by
 intro H0 H vs ds z Q s rs e k
 unfold Dm.gList at e
 split at e
 ·cases e
  cases rs with
  | cons r rr =>
   cases rr
   obtain ⟨a,us,rfl,qa,ra⟩ := repO_lst s r
   exact ⟨a,us,rfl,.inl (.inl qa),fun p hp => k _ _ _ (Grow.newO s hp) ⟨p,rfl,hp,s.free hp,_,upd_same,ra⟩⟩
 ·cases e
  cases rs with
  | cons r rr =>
   cases rr
   obtain ⟨a,us,rfl,qa,ra⟩ := repO_tup s r
   exact ⟨a,us,rfl,.inr (.inl (.inl qa)),fun p hp => k _ _ _ (Grow.newO s hp) ⟨p,rfl,hp,s.free hp,_,upd_same,ra⟩⟩
 ·cases e
theorem cd_tuple {K : PySem.W.Frag} : CallD (fun xs H Q => ∃ p ys,xs = [.ref p] ∧ ((SqL K H p ys ∧ ∀ l,H l = none → Q (.ref l) (upd H l (.tup ys))) ∨ (SqT K H p ys ∧ Q (.ref p) H))) Dm.gTuple := by
 intro H0 H vs ds z Q s rs e k
 unfold Dm.gTuple at e
 split at e
 ·cases e
  cases rs with
  | cons r rr =>
   cases rr
   obtain ⟨a,us,rfl,qa,ra⟩ := repO_lst s r
   refine ⟨a,us,rfl,.inl ⟨.inl qa,fun p hp => ?_⟩⟩
   have g := Grow.newS (o := HO.tup us) s hp
   exact k _ _ _ g (.tup upd_same (ra.mono g.s0))
 ·cases e
  cases rs with
  | cons r rr =>
   cases rr
   rcases r with r | ⟨a,_,w⟩
   ·cases r with
    | tup q rs => exact ⟨_,_,rfl,.inr ⟨.inl (.inl (s _ _ q)),k _ H0 H (Grow.refl s) (.tup q rs)⟩⟩
   ·exact False.elim w
 ·cases e
abbrev DS (X : Cx) (st : Stmt) (f : Dm.FS) : Prop := PS X st (tDS f)
abbrev DSs (X : Cx) (st : List Stmt) (f : Dm.FS) : Prop := PSs X st (tDS f)
abbrev DI (X : Cx) (tg it : Expr) (f : Dm.FI) : Prop := PI X tg it (tDI f)
theorem PI.weak {X : Cx} {tg it : Expr} {t t' : TI} (h : PI X tg it t) (k : ∀ σ H R,t' σ H R → t σ H R) : PI X tg it t' := fun pins s σ H R I q => h pins s σ H R I (k σ H R q)
section
variable {X : Cx} {a b c e : Expr} {fa fb fc f : Dm.FE} {pos : Pos}
theorem d_v (i : Nat) {x : Str} (hN : X.N[i]? = some x := by rfl) (hv : Vis X.env.scope x := by first | exact Or.inl rfl | exact Or.inr (Or.inl rfl) | exact Or.inr (Or.inr rfl)) (hd : (x == ("__debug__" : Str)) = false := by decide)
  (hcd : (x == ("__classdict__" : Str)) = false := by decide) : DE X (.Name x pos) (Dm.eV i) := PE.weak (pe_var hN hv hd hcd) fun _ _ _ => r_var
theorem d_i {i : Int} {j} : DE X (.Constant (.int i) j pos) (Dm.eC (.int i)) := PE.weak pe_int fun _ _ _ => r_const fun _ => .int i
theorem d_b {v : Bool} {j} : DE X (.Constant (.bool v) j pos) (Dm.eC (.bl v)) := PE.weak pe_bl fun _ _ _ => r_const fun _ => .bl v
theorem d_n {j} : DE X (.Constant .none j pos) (Dm.eC .non) := PE.weak pe_non fun _ _ _ => r_const fun _ => .non
theorem d_g {x : Str} {i : Int} {t : Tok} (hg : Gl X x) (hm : X.mg x = some (.int i t)) (hd : (x == ("__debug__" : Str)) = false := by decide) : DE X (.Name x pos) (Dm.eC (.int i)) :=
 PE.weak (pe_glob (v := .int i) hg hm ⟨t,rfl⟩ hd) fun _ _ _ => r_const fun _ => .int i
theorem d_op {op : Operator} {r : R2} {g : Dm.Dat → Dm.Dat → Option Dm.RV} (o : OpR X (binaryOp op) r) (od : OpD r g) (ha : DE X a fa) (hb : DE X b fb) : DE X (.BinOp a op b pos) (Dm.e2 g fa fb) :=
 PE.weak (pe_op o ha hb) fun _ _ _ => r_e2 od
theorem d_add (ha : DE X a fa) (hb : DE X b fb) : DE X (.BinOp a .Add b pos) (Dm.e2 Dm.gAdd fa fb) := d_op op_addD od_add ha hb
theorem d_sub (ha : DE X a fa) (hb : DE X b fb) : DE X (.BinOp a .Sub b pos) (Dm.e2 Dm.gSub fa fb) := d_op op_sub od_sub ha hb
theorem d_mul (ha : DE X a fa) (hb : DE X b fb) : DE X (.BinOp a .Mult b pos) (Dm.e2 Dm.gMul fa fb) := d_op op_mulD od_mul ha hb
theorem d_div (ha : DE X a fa) (hb : DE X b fb) : DE X (.BinOp a .FloorDiv b pos) (Dm.e2 Dm.gDiv fa fb) := d_op op_fdiv2 od_div ha hb
theorem d_mod (ha : DE X a fa) (hb : DE X b fb) : DE X (.BinOp a .Mod b pos) (Dm.e2 Dm.gMod fa fb) := d_op op_mod od_mod ha hb
theorem d_pow (ha : DE X a fa) (hb : DE X b fb) : DE X (.BinOp a .Pow b pos) (Dm.e2 Dm.gPow fa fb) := d_op op_pow od_pow ha hb
theorem d_neg (ha : DE X a fa) : DE X (.UnaryOp .USub a pos) (Dm.e1 Dm.gNeg fa) := PE.weak (pe_un un_neg ha) fun _ _ _ => r_e1 od_neg
theorem d_cmp {op : CmpOp} {r : R2} {g : Dm.Dat → Dm.Dat → Option Dm.RV} (o : OpR X (compareOp op) r) (od : OpD r g) (ha : DE X a fa) (hb : DE X b fb) (hm : behindInMarks op b = false) : DE X (.Compare a [op] [b] pos) (Dm.e2 g fa fb) :=
 PE.weak (pe_cmpR o ha hb hm) fun _ _ _ => r_e2 od
theorem t_cmp {op : CmpOp} {r : R2} {g : Dm.Dat → Dm.Dat → Option Dm.RV} (o : OpR X (compareOp op) r) (od : OpD r g) (ha : DE X a fa) (hb : DE X b fb) (hm : behindInMarks op b = false) : DT X (.Compare a [op] [b] pos) (Dm.tV (Dm.e2 g fa fb)) :=
 PT.weak (pt_cmpR o ha hb hm) fun σ H Q h => r_e2 od (r_test h)
theorem d_eq {k : Nat} (hr : Room k X.A) (ha : DE X a fa) (hb : DE X b fb) : DE X (.Compare a [.Eq] [b] pos) (Dm.e2 Dm.gEq fa fb) := d_cmp (op_eqD hr) od_eq ha hb (nomark _)
theorem d_ne {k : Nat} (hr : Room k X.A) (ha : DE X a fa) (hb : DE X b fb) : DE X (.Compare a [.NotEq] [b] pos) (Dm.e2 Dm.gNe fa fb) := d_cmp (op_neD hr) od_ne ha hb (nomark _)
theorem d_lt (ha : DE X a fa) (hb : DE X b fb) : DE X (.Compare a [.Lt] [b] pos) (Dm.e2 Dm.gLt fa fb) := d_cmp op_lt od_lt ha hb (nomark _)
theorem d_in {k : Nat} (hr : Room k X.A) (ha : DE X a fa) (hb : DE X b fb) (hm : behindInMarks .In b = false := by rfl) : DE X (.Compare a [.In] [b] pos) (Dm.e2 Dm.gIn fa fb) := d_cmp (op_inD hr) od_in ha hb hm
theorem t_eq {k : Nat} (hr : Room k X.A) (ha : DE X a fa) (hb : DE X b fb) : DT X (.Compare a [.Eq] [b] pos) (Dm.tV (Dm.e2 Dm.gEq fa fb)) := t_cmp (op_eqD hr) od_eq ha hb (nomark _)
theorem t_ne {k : Nat} (hr : Room k X.A) (ha : DE X a fa) (hb : DE X b fb) : DT X (.Compare a [.NotEq] [b] pos) (Dm.tV (Dm.e2 Dm.gNe fa fb)) := t_cmp (op_neD hr) od_ne ha hb (nomark _)
theorem t_lt (ha : DE X a fa) (hb : DE X b fb) : DT X (.Compare a [.Lt] [b] pos) (Dm.tV (Dm.e2 Dm.gLt fa fb)) := t_cmp op_lt od_lt ha hb (nomark _)
theorem t_gt (ha : DE X a fa) (hb : DE X b fb) : DT X (.Compare a [.Gt] [b] pos) (Dm.tV (Dm.e2 Dm.gGt fa fb)) := t_cmp op_gt od_gt ha hb (nomark _)
theorem t_ge (ha : DE X a fa) (hb : DE X b fb) : DT X (.Compare a [.GtE] [b] pos) (Dm.tV (Dm.e2 Dm.gGe fa fb)) := t_cmp op_ge od_ge ha hb (nomark _)
theorem d_ix (ha : DE X a fa) (hb : DE X b fb) (hs : PlainIx b := by intro _ _; rfl) : DE X (.Subscript a b pos) (Dm.e2 Dm.gIx fa fb) := PE.weak (pe_ix (ix_list.or ix_tup) ha hb hs) fun _ _ _ => r_e2 od_ix
theorem a_nil : DA X [] [] := PA.weak pa_nil fun _ _ _ => r_nil
theorem a_cons {es : List Expr} {fs : List Dm.FE} (h : DE X e f) (r : DA X es fs) (hs : starEach (e :: es) X.env = (false,eval e X.env) :: starEach es X.env := by rfl) : DA X (e :: es) (f :: fs) := PA.weak (pa_cons h r hs) fun _ _ _ => r_cons
theorem d_tup {es : List Expr} {fs : List Dm.FE} {x1} (h : DA X es fs) : DE X (.Tuple es x1 pos) (Dm.eTup fs) := PE.weak (pe_tup h) fun _ _ _ => r_tup
theorem d_lst {es : List Expr} {fs : List Dm.FE} (h : DA X es fs) : DE X (.List es pos) (Dm.eLst fs) := PE.weak (pe_lst h) fun _ _ _ => r_lst
theorem d_bf {es : List Expr} {fs : List Dm.FE} {r : List V → Hp → VK → Prop} {g : List Dm.Dat → Option Dm.RV} {x : Str} {id : String} {p : Pos} (hc : CallR X (.builtin id) r) (cd : CallD r g) (hv : bootBuiltins x = some (.builtin id)) (hg : Gl X x) (hm : X.mg x = none) (ha : DA X (e :: es) fs)
  (hn : x ≠ "__name__" := by decide) (hdb : (x == ("__debug__" : Str)) = false := by decide) (he : starEach (e :: es) X.env = (false, eval e X.env) :: starEach es X.env := by rfl) (hpl : (backTo pos (starEach es X.env)).any (·.1) = false := by rfl) :
  DE X (.Call (.Name x p) (e :: es) [] pos) (Dm.eB g fs) := PE.weak (pe_callB hc hg hm hv ha hn hdb he hpl) fun _ _ _ => r_cb cd
theorem d_bt {es : List Expr} {fs : List Dm.FE} {r : List V → Hp → VK → Prop} {g : List Dm.Dat → Option Dm.RV} {x : Str} {T : String} {p : Pos} (hc : CallR X (.type T) r) (cd : CallD r g) (hv : bootBuiltins x = some (.type T)) (hg : Gl X x) (hm : X.mg x = none) (ha : DA X (e :: es) fs)
  (hn : x ≠ "__name__" := by decide) (hdb : (x == ("__debug__" : Str)) = false := by decide) (he : starEach (e :: es) X.env = (false, eval e X.env) :: starEach es X.env := by rfl) (hpl : (backTo pos (starEach es X.env)).any (·.1) = false := by rfl) :
  DE X (.Call (.Name x p) (e :: es) [] pos) (Dm.eB g fs) := PE.weak (pe_callTy hc hg hm hv ha hn hdb he hpl) fun _ _ _ => r_cb cd
variable {es : List Expr} {fs : List Dm.FE} {p : Pos}
theorem d_len (hg : Gl X "len") (hm : X.mg "len" = none) (ha : DA X [e] fs) (he : starEach [e] X.env = [(false, eval e X.env)] := by rfl) (hpl : (backTo pos (starEach [] X.env)).any (·.1) = false := by rfl) : DE X (.Call (.Name "len" p) [e] [] pos) (Dm.eB Dm.gLen fs) := d_bf call_len_seq cd_len PySem.boot_len hg hm ha (he := he) (hpl := hpl)
theorem d_min2 (hc : X.calm = true) (hg : Gl X "min") (hm : X.mg "min" = none) (ha : DA X [a, b] fs) (he : starEach [a, b] X.env = (false, eval a X.env) :: starEach [b] X.env := by rfl) (hpl : (backTo pos (starEach [b] X.env)).any (·.1) = false := by rfl) : DE X (.Call (.Name "min" p) [a, b] [] pos) (Dm.eB Dm.gMin2 fs) := d_bf (call_min2 hc) cd_min2 (by rfl) hg hm ha (he := he) (hpl := hpl)
theorem d_max2 (hc : X.calm = true) (hg : Gl X "max") (hm : X.mg "max" = none) (ha : DA X [a, b] fs) (he : starEach [a, b] X.env = (false, eval a X.env) :: starEach [b] X.env := by rfl) (hpl : (backTo pos (starEach [b] X.env)).any (·.1) = false := by rfl) : DE X (.Call (.Name "max" p) [a, b] [] pos) (Dm.eB Dm.gMax2 fs) := d_bf (call_max2 hc) cd_max2 (by rfl) hg hm ha (he := he) (hpl := hpl)
theorem d_list (hg : Gl X "list") (hm : X.mg "list" = none) (ha : DA X [e] fs) (he : starEach [e] X.env = [(false, eval e X.env)] := by rfl) (hpl : (backTo pos (starEach [] X.env)).any (·.1) = false := by rfl) : DE X (.Call (.Name "list" p) [e] [] pos) (Dm.eB Dm.gList fs) := d_bt call_list_of cd_list (by rfl) hg hm ha (he := he) (hpl := hpl)
theorem d_tuple (hg : Gl X "tuple") (hm : X.mg "tuple" = none) (ha : DA X [e] fs) (he : starEach [e] X.env = [(false, eval e X.env)] := by rfl) (hpl : (backTo pos (starEach [] X.env)).any (·.1) = false := by rfl) : DE X (.Call (.Name "tuple" p) [e] [] pos) (Dm.eB Dm.gTuple fs) := d_bt call_tuple_of cd_tuple (by rfl) hg hm ha (he := he) (hpl := hpl)
theorem d_call {k : Nat} {F : Addr} {fd : FuncData} {ps : List Str} {g : List Dm.Dat → Option Dm.RV} {x : Str} (G : FnOk X.prog X.w X.K X.mg X.base CX0 k F fd ps (spD g)) (hr : Room k X.A) (hg : Gl X x) (hm : X.mg x = some (.ref F)) (hk : PySem.W.keepIn X.K (.ref F) = true) (hb : Binds X.K fd ps [])
  (ha : DA X (e :: es) fs) (hdb : (x == ("__debug__" : Str)) = false := by decide) (he : starEach (e :: es) X.env = (false, eval e X.env) :: starEach es X.env := by rfl) (hpl : (backTo pos (starEach es X.env)).any (·.1) = false := by rfl) :
  DE X (.Call (.Name x p) (e :: es) [] pos) (Dm.eF g fs) := PE.weak (pe_call G hr hg hm hk hb .nil (pass0 (X := X)) ha hdb he hpl) fun _ _ _ => r_call
theorem d_one {op} (h : DE X a fa) : DE X (.BoolOp op [a] pos) fa := pe_one h
theorem d_and {rest : List Expr} (ha : DE X a fa) (hb : DE X (.BoolOp .And (b :: rest) pos) fb) : DE X (.BoolOp .And (a :: b :: rest) pos) (Dm.eAnd fa fb) := PE.weak (pe_and ha hb) fun _ _ _ => r_and
theorem d_not (ha : DE X a fa) : DE X (.UnaryOp .Not a pos) (Dm.eNot fa) := PE.weak (pe_not ha) fun _ _ _ => r_not
abbrev DW (X : Cx) (e : Expr) (f : Dm.FT) : Prop := PW X e (tDT f)
theorem PW.weak {t t' : TT} (h : PW X e t) (k : ∀ σ H Q,t' σ H Q → t σ H Q) : PW X e t' := fun whole pins s σ H Q I q => h whole pins s σ H Q I (k σ H Q q)
variable {ta tb : Dm.FT}
theorem w_and1 (h : DT X a ta) : DW X (.BoolOp .And [a] pos) ta := pw_and1 h
theorem w_or1 (h : DT X a ta) : DW X (.BoolOp .Or [a] pos) ta := pw_or1 h
theorem w_and {rest : List Expr} (ha : DT X a ta) (hb : DW X (.BoolOp .And (b :: rest) pos) tb) : DW X (.BoolOp .And (a :: b :: rest) pos) (Dm.tAnd ta tb) := PW.weak (pw_and ha hb) fun _ _ _ => r_tand
theorem w_or {rest : List Expr} (ha : DT X a ta) (hb : DW X (.BoolOp .Or (b :: rest) pos) tb) : DW X (.BoolOp .Or (a :: b :: rest) pos) (Dm.tOr ta tb) := PW.weak (pw_or ha hb) fun _ _ _ => r_tor
theorem t_w (h : DW X a ta) : DT X a ta := h.pt
theorem t_not (h : DT X a ta) : DT X (.UnaryOp .Not a pos) (Dm.tNot ta) := PT.weak (pt_not h) fun _ _ _ => r_tnot
theorem t_val (h : DE X e f) (he : ∀ whole,isTrue e X.env whole = (do let v ← whole; standAt e.pos; holding [v] (truthy v)) := by intro _; rfl) : DT X e (Dm.tV f) := PT.weak (pt_val h he) fun _ _ _ => r_test
variable {tg : Expr}
theorem i_R1 (hg : Gl X "range") (hm : X.mg "range" = none) (ha : DA X [a] [fa]) (hs : starEach [a] X.env = [(false, eval a X.env)] := by rfl) : DI X tg (.Call (.Name "range" p) [a] [] pos) (Dm.iR1 fa) :=
 PI.weak (pi_range1 hg hm ha hs) fun _ _ _ => r_iR1
theorem i_R2 (hg : Gl X "range") (hm : X.mg "range" = none) (ha : DA X [a, b] [fa, fb]) (hs : starEach [a, b] X.env = [(false, eval a X.env), (false, eval b X.env)] := by rfl) (hs2 : starEach [b] X.env = [(false, eval b X.env)] := by rfl) : DI X tg (.Call (.Name "range" p) [a, b] [] pos) (Dm.iR2 fa fb) :=
 PI.weak (pi_range2 hg hm ha hs hs2) fun _ _ _ => r_iR2
end
section
variable {X : Cx} {st : Stmt} {rest : List Stmt} {fs gs : Dm.FS} {e a b c : Expr} {f fa fb : Dm.FE} {pos : Pos}
theorem s_nil : DSs X [] Dm.sNx := PSs.weak pss_nil fun _ _ _ => r_nx
theorem s_cons (h1 : DS X st fs) (h2 : DSs X rest gs) : DSs X (st :: rest) (Dm.sSeq fs gs) := PSs.weak (pss_cons h1 h2) fun _ _ _ => r_seq
theorem s_one (h1 : DS X st fs) : DSs X [st] fs := pss_one h1
theorem s_a (i : Nat) {x : Str} {pos' : Pos} (hN : X.N.Nodup) (he : DE X e f) (hi : X.N[i]? = some x := by rfl) (hx : Loc X.env.scope x := by first | exact Or.inl rfl | exact Or.inr rfl) (hs : swapsWith e (some (.Name x pos')) pos.line X.env = pure false := by rfl)
  (hf : X.fn x = true ∨ X.env.scope.names.lookup x = some .local := by first | exact .inl rfl | exact .inr rfl | assumption) : DS X (.Assign [.Name x pos'] e pos) (Dm.sA i f) := PS.weak (ps_set hN hi hx he hs hf) fun _ _ _ => r_asg
theorem gs_nil : PGs X [] (gNames []) := pgs_nil
theorem gs_cons {es : List Expr} {is : List Nat} (i : Nat) {x : Str} {px : Pos} (hN : X.N.Nodup) (h2 : PGs X es (gNames is)) (hi : X.N[i]? = some x := by rfl) (hx : Loc X.env.scope x := by first | exact Or.inl rfl | exact Or.inr rfl)
  (hf : X.fn x = true ∨ X.env.scope.names.lookup x = some .local := by first | exact .inl rfl | exact .inr rfl | assumption) (hs : (assignEach (.Name x px :: es) X.env).map (·.2) = assign (.Name x px) X.env :: (assignEach es X.env).map (·.2) := by rfl) : PGs X (.Name x px :: es) (gNames (i :: is)) := pgs_cons (pg_name hN hi hx hf) h2 hs
theorem s_e (he : DE X e f) (hs : swapsWith e none pos.line X.env = pure false := by rfl) : DS X (.Expr e pos) (Dm.sE f) := PS.weak (ps_expr he hs) fun _ _ _ => r_expr
theorem s_r (he : DE X e f) : DS X (.Return (some e) pos) (Dm.sR f) := PS.weak (ps_ret he) fun _ _ _ => r_ret
theorem s_if {t : Dm.FT} {x y : List Stmt} (ht : DT X c t) (ha : DSs X x fs) (hb : DSs X y gs) : DS X (.If c x y pos) (Dm.sIf t fs gs) := PS.weak (ps_if ht ha hb) fun _ _ _ => r_ifS
theorem s_ct : DS X (.Continue pos) Dm.sCt := PS.weak ps_continue fun _ _ _ => r_ct
theorem s_never : DS X st (fun _ => none) := PS.weak ps_never fun _ _ _ ⟨_,_,_,_,z,_⟩ => by cases z
theorem s_app (i : Nat) {x : Str} {px ap cp : Pos} (he : DE X e f) (hi : X.N[i]? = some x := by rfl) (hv : Vis X.env.scope x := by first | exact Or.inl rfl | exact Or.inr (Or.inl rfl) | exact Or.inr (Or.inr rfl)) (hd : (x == ("__debug__" : Str)) = false := by decide)
  (hcd : (x == ("__classdict__" : Str)) = false := by decide) (hbase : attributeBase (.Name x px) "append" X.env (eval (.Name x px) X.env) = eval (.Name x px) X.env := by rfl)
  (hfew : ((backTo cp (starEach [e] X.env)).all (fun x => !x.1) && (backToKw cp (keywordEach [] X.env)).all (fun x => x.1.isSome)
   && decide ([e].length + ([] : List Keyword).length + (if ([] : List Keyword).isEmpty then 0 else 1) < 30)) = true := by rfl)
  (hline : (ap.endLine == cp.line) = true := by rfl) (hs : starEach [e] X.env = (false,eval e X.env) :: starEach [] X.env := by rfl) (hplain : (backTo cp (starEach [] X.env)).any (·.1) = false := by rfl)
  (hsw : swapsWith (.Call (.Attribute (.Name x px) "append" ap) [e] [] cp) none pos.line X.env = pure false := by rfl) :
  DS X (.Expr (.Call (.Attribute (.Name x px) "append" ap) [e] [] cp) pos) (Dm.sApp i f) :=
 PS.weak (ps_expr (pe_bm PySem.F.plainAttrs_list PySem.F.slot_list_append PySem.F.type_list_append mt_append (pe_var hi hv hd hcd) (a_cons he a_nil hs) hbase hfew hline hs hplain) hsw) fun _ _ _ => r_app
theorem s_set (i : Nat) {x : Str} {j : Expr} {fj : Dm.FE} {px sp : Pos} (hj : DE X j fj) (he : DE X e f) (hi : X.N[i]? = some x := by rfl) (hv : Vis X.env.scope x := by first | exact Or.inl rfl | exact Or.inr (Or.inl rfl) | exact Or.inr (Or.inr rfl)) (hd : (x == ("__debug__" : Str)) = false := by decide)
  (hcd : (x == ("__classdict__" : Str)) = false := by decide) (ha : ∀ v, assign (.Subscript (.Name x px) j sp) X.env v = (do
   let ov ← holding [v] (eval (.Name x px) X.env)
   let iv ← holding [v,ov] (eval j X.env)
   standAt sp
   holding [v,ov,iv] (setItem ov iv v)
   release [v,ov,iv] []) := by intro _; rfl)
  (hs : swapsWithSole [.Subscript (.Name x px) j sp] e pos.line X.env = pure false := by rfl) (hw : swappedStores [.Subscript (.Name x px) j sp] e X.env = pure none := by rfl) (h1 : (assignEach [.Subscript (.Name x px) j sp] X.env).map (·.2) = [assign (.Subscript (.Name x px) j sp) X.env] := by rfl) :
  DS X (.Assign [.Subscript (.Name x px) j sp] e pos) (Dm.sSet i fj f) := PS.weak (ps_asg he (pg_sub (pe_var hi hv hd hcd) hj set_list ha) hs hw h1) fun _ _ _ => r_set
theorem s_wh (n : Nat) {t : Dm.FT} {body : List Stmt} (hp : PassesOwn (model X.prog X.w) X.A X.env X.xe) (ht : DT X c t) (hb : DSs X body fs) : DS X (.While c body [] pos) (Dm.whD t fs n) := PS.weak (ps_while hp ht hb) fun _ _ _ => r_while
structure TG' (X : Cx) (tg : Expr) (is : List Nat) (bd : Dm.FB) : Prop where
 ex : ∃ g,PG X tg g ∧ BD is g bd
theorem g_n (i : Nat) {x : Str} {px : Pos} (hN : X.N.Nodup) (hi : X.N[i]? = some x := by rfl) (hx : Loc X.env.scope x := by first | exact Or.inl rfl | exact Or.inr rfl) (hf : X.fn x = true ∨ X.env.scope.names.lookup x = some .local := by first | exact .inl rfl | exact .inr rfl | assumption) :
  TG' X (.Name x px) [i] (Dm.bN i) := ⟨⟨_,pg_name hN hi hx hf,bd_name i⟩⟩
theorem g_t {is : List Nat} {es : List Expr} {k : Nat} {tpos : Pos} (hc : X.calm = true) (hg : PGs X es (gNames is)) (hn : (assignEach es X.env).length = is.length := by rfl) (hst : (assignEach es X.env).findIdx? (·.1) = none := by rfl) : TG' X (.Tuple es k tpos) is (Dm.bT is) :=
 ⟨⟨_,pg_tup hc hg hn hst,bd_tup is rfl⟩⟩
theorem s_for {tg it : Expr} {fi : Dm.FI} {is : List Nat} {bd : Dm.FB} {body : List Stmt} (hp : PassesOwn (model X.prog X.w) X.A X.env X.xe) (hc : X.calm = true) (hi : DI X tg it fi) (hg : TG' X tg is bd) (hb : DSs X body fs)
  (hs : ∀ x,foldedSetIterable it X.env x = pure x := by intro _; rfl) : DS X (.For tg it body [] pos) (Dm.sFor fi bd fs) := by
 obtain ⟨g,h1,h2⟩ := hg.ex
 exact PS.weak (ps_for hp hc hi h1 hb hs) fun _ _ _ => r_for h2
end
def tyName : Dm.Dat → String
 | .non => "NoneType"
 | .bl _ => "bool"
 | .int _ => "int"
 | .str _ => "str"
 | .tup _ => "tuple"
 | .lst _ => "list"
 | .dct _ _ => "dict"
 | .exc _ => "dict"
 | .fn _ => "dict"
def KitP (T : String) (p : Dm.Dat → Bool) : Prop := ∀ (K : PySem.W.Frag) (d : Dm.Dat),PySem.W.kitOne K (.type (tyName d)) (.type T) = some (p d)
theorem kit_int : KitP "int" Dm.isI := fun K d => by cases d <;> rfl
theorem kit_bool : KitP "bool" Dm.isB := fun K d => by cases d <;> rfl
theorem kit_list : KitP "list" Dm.isL := fun K d => by cases d <;> rfl
theorem kit_tuple : KitP "tuple" Dm.isT := fun K d => by cases d <;> rfl
theorem tyOf_rep {K : PySem.W.Frag} {H : Hp} {v : V} {d : Dm.Dat} (r : Rep H v d) (nx : ∀ C,d ≠ .exc C ∧ d ≠ .fn C) : TyOf K H v (.type (tyName d)) := by
 cases r with
 | non => exact .non
 | bl b => exact .bl b
 | int i => exact .int i
 | str s => exact .str _
 | tup q _ => exact .tup q
 | lst q _ =>
  rcases q with q | ⟨o,q⟩
  ·exact .lst q
  ·exact .frz q
 | dct q _ _ => exact .dK q
 | exc _ => exact absurd rfl (nx _).1
 | fn _ => exact absurd rfl (nx _).2
def rIsi (K : PySem.W.Frag) (T : String) : List V → Hp → VK → Prop := fun xs H Q => ∃ x t b,xs = [x,.ty T] ∧ TyOf K H x t ∧ PySem.W.kitOne K t (.type T) = some b ∧ Q (.bl b) H
section
variable {X : Cx} {e : Expr} {f : Dm.FE} {p p2 pos : Pos}
theorem call_isi {T : String} : CallR X (.builtin "isinstance") (rIsi X.K T) := by
 intro pins s σ H xs us Q I r h
 obtain ⟨x,t,b,rfl,ty,e,q⟩ := h
 obtain ⟨u,u2,rfl,rx,ry⟩ := vals2 r
 cases ry
 exact isinst_ok I rx ty e fun tk => ⟨.bl b,H,I.tok tk,rfl,q⟩
theorem r_isi {K : PySem.W.Frag} {T : String} {p : Dm.Dat → Bool} (kp : KitP T p) {σ : L2.St} {H : Hp} {Q : VK} (h : tD (Dm.e1 (Dm.gIsi p) f) σ H Q) : tCB (rIsi K T) (tCons (tD f) (tCons (tC (.ty T)) tNil)) σ H Q := by
 obtain ⟨H0,ρ,x,ρ',st,e,k⟩ := h
 unfold Dm.e1 at e
 split at e
 ·cases e
 rename_i x1 ρ1 e1
 split at e
 ·cases e
 rename_i dx p1
 have nx : ∀ C,dx ≠ .exc C ∧ dx ≠ .fn C := fun C => ⟨fun z => (by subst z; cases e),fun z => (by subst z; cases e)⟩
 have ev : Dm.gIsi p dx = Dm.vB (p dx) := by cases dx <;> first | rfl | exact absurd rfl (nx _).1 | exact absurd rfl (nx _).2
 rw [ev] at e
 dsimp only at e
 cases e
 refine ⟨H0,ρ,x1,_,st,e1,fun v H1 Hb t1 r1 => ?_⟩
 exact ⟨v,_,_,rfl,tyOf_rep ((r1.look t1.st p1).full t1.st.same) nx,kp K dx,k _ H1 Hb t1 (Rep.bl _)⟩
theorem d_isi {T : String} {tn : Str} {p' : Dm.Dat → Bool} (kp : KitP T p') (hvT : bootBuiltins tn = some (.type T)) (hgT : Gl X tn) (hmT : X.mg tn = none) (hg : Gl X "isinstance") (hm : X.mg "isinstance" = none) (h : DE X e f)
  (hn : tn ≠ "__name__" := by decide) (hdb : (tn == ("__debug__" : Str)) = false := by decide)
  (he : starEach [e,.Name tn p2] X.env = (false,eval e X.env) :: starEach [.Name tn p2] X.env := by rfl) (hpl : (backTo pos (starEach [.Name tn p2] X.env)).any (·.1) = false := by rfl) (he2 : starEach [.Name tn p2] X.env = (false,eval (.Name tn p2) X.env) :: starEach [] X.env := by rfl) :
  DE X (.Call (.Name "isinstance" p) [e, .Name tn p2] [] pos) (Dm.e1 (Dm.gIsi p') f) :=
 PE.weak (pe_callB call_isi hg hm PyProof.Rows.boot_isinstance (pa_cons h (pa_cons (pe_bltn (v := .ty T) hgT hmT hvT rfl hn hdb) pa_nil he2) he) (he := he) (hpl := hpl)) fun _ _ _ => r_isi kp
theorem all_range (bs : List Bool) : (List.range bs.length).all (fun i => bs.getD i true) = bs.all id := by
 rw [Bool.eq_iff_iff,List.all_eq_true,List.all_eq_true]
 constructor
 ·intro h b hb
  obtain ⟨i,hi,rfl⟩ := List.mem_iff_getElem.mp hb
  have := h i (List.mem_range.mpr hi)
  rw [List.getD_eq_getElem?_getD,List.getElem?_eq_getElem hi] at this
  exact this
 ·intro h i hi
  have hi := List.mem_range.mp hi
  rw [List.getD_eq_getElem?_getD,List.getElem?_eq_getElem hi]
  exact h _ (List.getElem_mem hi)
theorem call_allB (hc : X.calm = true) : CallR X (.builtin "all") (fun xs H Q => ∃ (a : Addr) (bs : List Bool), xs = [.ref a] ∧ Rd H a (.lst (bs.map V.bl)) ∧ Q (.bl (bs.all id)) H) := by
 intro pins s σ H xs us Q I r h
 obtain ⟨a,bs,rfl,hq,q⟩ := h
 obtain ⟨u,rfl,rx⟩ := vals1 r
 cases rx
 obtain ⟨z,its,n,rv,e⟩ := hq.ok I.hok
 have hl : s.heap.IsList a its.toArray := ⟨_,e,rfl,_,rfl⟩
 have hlen := rv.length
 rw [List.length_map] at hlen
 have hax : a ≠ s.heap.objs.size := Nat.ne_of_lt (Heap.lt_size e)
 refine PySem.call_all_walk (wpAny_pyIter_list hl ⟨s.heap.objs.size,_,_,_,_,_,fun i => bs.getD i true,rfl,Walks.list (A := X.A.in1) (I.ok.hd hc) s.heap.objs.size a hax its.toArray,⟨⟨_,Heap.get?_push_size _ rfl,rfl,rfl⟩,hl.push _⟩,?_,fun h' tk hk => ?_⟩)
 ·intro i v s' Q' E' hv hQ'
  have hv' : its[i]? = some v := by simpa using hv
  have hi : i < bs.length := by rw [hlen]; exact (List.getElem?_eq_some_iff.mp hv').1
  have hb : (bs.map V.bl)[i]? = some (V.bl bs[i]) := by rw [List.getElem?_map,List.getElem?_eq_getElem hi]; rfl
  obtain ⟨u,hu,ru⟩ := rv.get hb
  rw [hv'] at hu
  cases hu
  cases ru
  refine wpAny_truthy_bool ?_
  have e2 : bs.getD i true = bs[i] := by rw [List.getD_eq_getElem?_getD,List.getElem?_eq_getElem hi]; rfl
  rw [← e2]
  exact hQ'
 ·have e1 : its.toArray.size = bs.length := by rw [List.size_toArray,hlen]
  rw [e1,all_range]
  refine ⟨.bl _,H,I.kept (t' := tk) fun b o eb => hk b o ?_ (Heap.get?_push_of_some _ eb),rfl,q⟩
  intro hm
  have : b = s.heap.objs.size := by simpa using hm
  exact absurd (Heap.lt_size eb) (by rw [this]; exact Nat.lt_irrefl _)
end
section
variable {X : Cx} {a b c e : Expr} {f fa fb fc : Dm.FE} {p p2 pos : Pos}
theorem r_chain {r r' : R2} {g h : Dm.Dat → Dm.Dat → Option Dm.RV} (o1 : OpD r g) (o2 : OpD r' h) {σ : L2.St} {H : Hp} {Q : VK} (hh : tD (Dm.eChain g h fa fb fc) σ H Q) : tChain r r' (tD fa) (tD fb) (tD fc) σ H Q := by
 obtain ⟨H0,ρ,x,ρ',st,e,k⟩ := hh
 unfold Dm.eChain at e
 split at e
 ·cases e
 rename_i x1 ρ1 e1
 split at e
 ·cases e
 rename_i y1 ρ2 e2
 split at e
 ·cases e
 rename_i dx p1
 split at e
 ·cases e
 rename_i dy p2
 refine ⟨H0,ρ,x1,ρ1,st,e1,fun v H1 Hb t1 r1 => ⟨H1,ρ1,y1,ρ2,t1.st,e2,fun u H2 Hc t2 r2 => ?_⟩⟩
 split at e
 ·rename_i gz
  refine o1 H2 Hc v u dx dy _ _ t2.st.same ((r1.mono t2).look t2.st p1) (r2.look t2.st p2) gz fun w H3 Hd g3 r3 => ?_
  refine ⟨true,Rep.isBl r3,?_⟩
  rw [if_pos rfl]
  have t3 := t2.trans (.grow t2.st g3)
  have r2' := r2.mono (.grow t2.st g3)
  split at e
  ·cases e
  rename_i z ρ3 e3
  split at e
  ·cases e
  rename_i dy' p3
  split at e
  ·cases e
  rename_i dz p4
  split at e
  ·cases e
  rename_i w2 hz
  cases e
  refine ⟨H3,ρ2,z,_,t3.st,e3,fun w' H4 He t4 r4 => ?_⟩
  refine o2 H4 He u w' dy' dz w2 Q t4.st.same ((r2'.mono t4).look t4.st p3) (r4.look t4.st p4) hz fun w5 H5 Hf g5 r5 => ?_
  exact k w5 H5 Hf (t1.trans (t3.trans (t4.trans (.grow t4.st g5)))) ((r5.toV t4.st).early fun a n => (t1.trans (t3.trans t4)).stp.gone n)
 ·rename_i gz
  cases e
  refine o1 H2 Hc v u dx dy _ _ t2.st.same ((r1.mono t2).look t2.st p1) (r2.look t2.st p2) gz fun w H3 Hd g3 r3 => ?_
  refine ⟨false,Rep.isBl r3,?_⟩
  rw [if_neg Bool.false_ne_true]
  exact k _ H3 Hd (t1.trans (t2.trans (.grow t2.st g3))) (Rep.bl false)
 ·cases e
theorem d_chain {op op' : CmpOp} {r r' : R2} {g h : Dm.Dat → Dm.Dat → Option Dm.RV} (o1 : OpR X (compareOp op) r) (q1 : OpD r g) (o2 : OpR X (compareOp op') r') (q2 : OpD r' h) (ha : DE X a fa) (hb : DE X b fb) (hc : DE X c fc)
  (hm : lastMarks [op,op'] [b,c] = false := by with_unfolding_all rfl) : DE X (.Compare a [op,op'] [b,c] pos) (Dm.eChain g h fa fb fc) := PE.weak (pe_chain o1 o2 ha hb hc hm) fun _ _ _ => r_chain q1 q2
theorem sIx_eq (n d : Nat) (o : Option Int) (hd : d ≤ n) : HT.sIx n d o = Dm.sIx n d o := by
 cases o with
 | none => rfl
 | some v =>
  unfold HT.sIx Dm.sIx
  first
   | rfl
   | (dsimp only; split <;> omega)
theorem cutV_reps {H0 : Hp} {xs : List V} {ds : List Dm.Dat} (rs : Reps H0 xs ds) (lo hi : Option Int) : Reps H0 (cutV xs lo hi) (Dm.cut ds lo hi) := by
 unfold cutV Dm.cut
 rw [rs.length,sIx_eq _ _ _ (Nat.zero_le _),sIx_eq _ _ _ (Nat.le_refl _)]
 exact (rs.drop _).take _
theorem part_ok {fo : Option Dm.FE} {σ : L2.St} {H0 H : Hp} {ρ ρ' : Dm.Env} {o : Option Int} {Q : Option Int → Hp → Prop} (st : RepSt H0 H σ ρ) (e : Dm.part fo ρ = some (o,ρ')) (k : ∀ H0' H',ESt σ ρ H0 H ρ' H0' H' → Q o H') :
  (match fo with | none => tNoPart | some f => tPart (tD f)) σ H Q := by
 cases fo with
 | none => cases e; exact k H0 H (.refl st)
 | some f =>
  unfold Dm.part at e
  dsimp only at e
  split at e
  ·rename_i i ρ1 e1
   cases e
   exact ⟨H0,ρ,_,_,st,e1,fun v H1 Hb t1 r1 => ⟨i,Rep.isInt r1,k H1 Hb t1⟩⟩
  ·cases e
abbrev tOf (fo : Option Dm.FE) : TO := match fo with | none => tNoPart | some f => tPart (tD f)
theorem r_sl {K : PySem.W.Frag} {lo hi : Option Dm.FE} {σ : L2.St} {H : Hp} {Q : VK} (h : tD (Dm.eSl f lo hi) σ H Q) : tSl (rSlL K) (tD f) (tOf lo) (tOf hi) σ H Q := by
 obtain ⟨H0,ρ,x,ρ',st,e,k⟩ := h
 unfold Dm.eSl at e
 split at e
 ·cases e
 rename_i x1 ρ1 e1
 split at e
 ·cases e
 rename_i l ρ2 e2
 split at e
 ·cases e
 rename_i hh ρ3 e3
 split at e
 ·rename_i ds p1
  cases e
  refine ⟨H0,ρ,x1,ρ1,st,e1,fun v H1 Hb t1 r1 => ?_⟩
  refine part_ok t1.st e2 fun H2 Hc t2 => ?_
  refine part_ok t2.st e3 fun H3 Hd t3 => ?_
  have tt := t1.trans (t2.trans t3)
  obtain ⟨a,xs,rfl,qa,ra⟩ := repO_lst t3.st.same ((r1.mono (t2.trans t3)).look t3.st p1)
  refine ⟨a,xs,rfl,.inl qa,fun q hq => ?_⟩
  have g := Grow.newO (o := HO.lst (cutV xs l hh)) t3.st.same hq
  refine k _ _ _ (tt.trans (.grow t3.st g)) ⟨q,rfl,tt.stp.gone hq,t3.st.notOwned hq,t3.st.same.free hq,_,upd_same,cutV_reps ra l hh⟩
 ·cases e
theorem d_sl {lo hi : Option Expr} {flo fhi : Option Dm.FE} (h : DE X e f) (hl : PO X lo (tOf flo)) (hh : PO X hi (tOf fhi)) : DE X (.Subscript e (.Slice lo hi none p2) pos) (Dm.eSl f flo fhi) := PE.weak (pe_slice sl_list h hl hh) fun _ _ _ => r_sl
theorem o_n : PO X none (tOf none) := po_none
theorem o_s (h : DE X e f) : PO X (some e) (tOf (some f)) := po_some h
end
section
variable {X : Cx} {nm : List Str} {elt tg iter : Expr} {ifs : List Expr} {scope : Scope} {pos : Pos} {own : List Str} {fi : Dm.FI} {bd : Dm.FB} {is : List Nat} {t : Dm.FT} {f : Dm.FE}
abbrev DTs (X : Cx) (ifs : List Expr) (t : Dm.FT) : Prop := PTs X ifs (tDT t)
theorem ts_nil : DTs X [] Dm.tTrue := fun pins s σ H Q I h => by
 obtain ⟨H0,ρ,b,ρ',st,e,k⟩ := h
 cases e
 exact pts_nil pins s σ H Q I (k H0 H (.refl st))
theorem ts_one {c : Expr} (h : DT X c t) : DTs X [c] t := pts_one h
structure TGc (X : Cx) (nm : List Str) (scope : Scope) (own : List Str) (tg : Expr) (is : List Nat) (bd : Dm.FB) : Prop where
 ex : ∃ g,(∀ cl C s H fp,PG (compX X nm scope own cl C s H fp) tg g) ∧ BD is g bd
theorem c_n (i : Nat) {x : Str} {px : Pos} (hN : (nm ++ own).Nodup) (hi : (nm ++ own)[i]? = some x) (hx : (relabel scope X.env).names.lookup x = some .local) : TGc X nm scope own (.Name x px) [i] (Dm.bN i) :=
 ⟨⟨_,fun cl C s H fp => pg_name (X := compX X nm scope own cl C s H fp) hN hi (.inl hx) (.inr hx),bd_name i⟩⟩
theorem c_t {es : List Expr} {k : Nat} {tpos : Pos} (hc : X.calm = true) (hg : ∀ cl C s H fp,PGs (compX X nm scope own cl C s H fp) es (gNames is)) (hn : ∀ cl C,(assignEach es (compEnvC scope cl C X.env)).length = is.length := by intro _ _; rfl)
  (hst : ∀ cl C,(assignEach es (compEnvC scope cl C X.env)).findIdx? (·.1) = none := by intro _ _; rfl) : TGc X nm scope own (.Tuple es k tpos) is (Dm.bT is) :=
 ⟨⟨_,fun cl C s H fp => pg_tup (X := compX X nm scope own cl C s H fp) hc (hg cl C s H fp) (hn cl C) (hst cl C),bd_tup is rfl⟩⟩
theorem d_comp (hc : X.calm = true) (S : CScope X nm scope) (hi : DI X tg iter fi) (hg : TGc X nm scope own tg is bd) (ht : ∀ cl C s H fp,DTs (compX X nm scope own cl C s H fp) ifs t) (he : ∀ cl C s H fp,DE (compX X nm scope own cl C s H fp) elt f)
  (hl : ∀ i ∈ is,X.N.length ≤ i) (hs : ∀ x,foldedSetIterable iter X.env x = pure x := by intro _; rfl) : DE X (.ListComp elt [⟨tg,iter,ifs,0⟩] scope pos) (Dm.eComp fi own.length bd t f) := by
 obtain ⟨g,h1,h2⟩ := hg.ex
 intro pins s σ H Q I h
 exact pe_comp hc S hi h1 ht he hs pins s σ H Q I (r_comp h2 (fun i hi => by rw [I.len]; exact hl i hi) h)
theorem s_comp (j : Nat) {y : Str} {py spos : Pos} (hN : X.N.Nodup) (hc : X.calm = true) (S : CScope X nm scope) (hi : DI X tg iter fi) (hg : TGc X nm scope own tg is bd) (ht : ∀ cl C s H fp,DTs (compX X nm scope own cl C s H fp) ifs t) (he : ∀ cl C s H fp,DE (compX X nm scope own cl C s H fp) elt f)
  (hl : ∀ i ∈ is,X.N.length ≤ i) (hj : X.N[j]? = some y := by rfl) (hy : Loc X.env.scope y := by first | exact Or.inl rfl | exact Or.inr rfl)
  (hsw : swapsWith (.ListComp elt [⟨tg,iter,ifs,0⟩] scope pos) (some (.Name y py)) spos.line X.env = pure true := by rfl) (hs : ∀ x,foldedSetIterable iter X.env x = pure x := by intro _; rfl)
  (hf : X.fn y = true ∨ X.env.scope.names.lookup y = some .local := by first | exact .inl rfl | exact .inr rfl | assumption) : DS X (.Assign [.Name y py] (.ListComp elt [⟨tg,iter,ifs,0⟩] scope pos) spos) (Dm.sA j (Dm.eComp fi own.length bd t f)) := by
 obtain ⟨g,h1,h2⟩ := hg.ex
 intro pins s σ H D I h
 exact ps_set_comp hN hj hy hc S hi h1 ht he hsw hs hf pins s σ H D I (r_comp h2 (fun i hi => by rw [I.len]; exact hl i hi) (r_asg h))
end
theorem reps_bools {H0 : Hp} : ∀ {ds : List Dm.Dat} {bs : List Bool} {vs : List V},Reps H0 vs ds → Dm.bools ds = some bs → vs = bs.map V.bl
 | [],bs,vs,r,e => by cases r; cases e; rfl
 | .bl b :: ds,bs,vs,r,e => by
  cases r with
  | cons r rs =>
   unfold Dm.bools at e
   cases q : Dm.bools ds with
   | none => rw [q] at e; cases e
   | some cs =>
    rw [q] at e
    cases e
    cases Rep.isBl r
    rw [reps_bools rs q]
    rfl
 | .non :: ds,bs,vs,r,e => by cases e
 | .int _ :: ds,bs,vs,r,e => by cases e
 | .str _ :: ds,bs,vs,r,e => by cases e
 | .tup _ :: ds,bs,vs,r,e => by cases e
 | .lst _ :: ds,bs,vs,r,e => by cases e
 | .dct _ _ :: ds,bs,vs,r,e => by cases e
theorem cd_all : CallD (fun xs H Q => ∃ (a : Addr) (bs : List Bool),xs = [.ref a] ∧ Rd H a (.lst (bs.map V.bl)) ∧ Q (.bl (bs.all id)) H) Dm.gAll := by
 intro H0 H vs ds z Q s rs e k
 unfold Dm.gAll at e
 split at e
 ·split at e
  ·rename_i bs hb
   cases e
   cases rs with
   | cons r rr =>
    cases rr
    obtain ⟨a,us,rfl,qa,ra⟩ := repO_lst s r
    have := reps_bools ra hb
    subst this
    exact ⟨a,bs,rfl,qa,k _ H0 H (Grow.refl s) (.bl _)⟩
  ·cases e
 ·cases e
section
variable {X : Cx} {a b c e : Expr} {f : Dm.FE} {fs : List Dm.FE} {p p2 pos : Pos}
theorem d_all (hc : X.calm = true) (hg : Gl X "all") (hm : X.mg "all" = none) (ha : DA X [e] fs) (he : starEach [e] X.env = [(false, eval e X.env)] := by rfl) (hpl : (backTo pos (starEach [] X.env)).any (·.1) = false := by rfl) :
  DE X (.Call (.Name "all" p) [e] [] pos) (Dm.eB Dm.gAll fs) := d_bf (call_allB hc) cd_all (by rfl) hg hm ha (he := he) (hpl := hpl)
end
def maskOk (sc : Scope) : List Str → List Str → Bool
 | [],[] => true
 | x :: N,y :: nm => (x == y || (sc.names.lookup y).isNone) && maskOk sc N nm
 | _,_ => false
theorem maskOk.len {sc : Scope} : ∀ {N nm : List Str},maskOk sc N nm = true → nm.length = N.length
 | [],[],_ => rfl
 | [],_ :: _,h => by cases h
 | _ :: _,[],h => by cases h
 | x :: N,y :: nm,h => by
  rw [maskOk,Bool.and_eq_true] at h
  rw [List.length_cons,List.length_cons,maskOk.len h.2]
theorem maskOk.at {sc : Scope} : ∀ {N nm : List Str},maskOk sc N nm = true → ∀ (i : Nat) (x : Str),nm[i]? = some x → N[i]? = some x ∨ sc.names.lookup x = none
 | [],[],_,i,x,e => by simp at e
 | [],_ :: _,h,_,_,_ => by cases h
 | _ :: _,[],h,_,_,_ => by cases h
 | x :: N,y :: nm,h,0,z,e => by
  rw [maskOk,Bool.and_eq_true,Bool.or_eq_true] at h
  simp at e
  subst e
  rcases h.1 with q | q
  ·have : x = y := by simpa using q
   subst this
   exact .inl rfl
  ·exact .inr (by simpa using q)
 | x :: N,y :: nm,h,i + 1,z,e => by
  rw [maskOk,Bool.and_eq_true] at h
  rw [List.getElem?_cons_succ] at e ⊢
  exact maskOk.at h.2 i z e
def cscOk (osc : Scope) (N nm : List Str) (sc : Scope) : Bool :=
 sc.names.all (fun y => y.2 != .cell) && sc.names.all (fun y => y.2 != .local || sc.names.lookup y.1 == some .local) &&
 sc.names.all (fun y => y.2 != .free || (osc.names.lookup y.1 == some .cell || osc.names.lookup y.1 == some .free)) && nm.all (fun x => sc.names.lookup x != some .local) && maskOk sc N nm
theorem CScope.of {X : Cx} {nm : List Str} {scope : Scope} (h : cscOk X.env.scope X.N nm scope = true) (hk : scope.kind = .function) : CScope X nm scope := by
 unfold cscOk at h
 simp only [Bool.and_eq_true,List.all_eq_true] at h
 obtain ⟨⟨⟨⟨h1,h2⟩,h3⟩,h4⟩,h5⟩ := h
 refine ⟨hk,fun y hy => ?_,fun y hy hl => ?_,fun y hy hf => ?_,fun x hx => ?_,maskOk.len h5,maskOk.at h5⟩
 ·have := h1 y hy; simpa using this
 ·have := h2 y hy
  rw [hl] at this
  simpa using this
 ·have := h3 y hy
  rw [hf] at this
  have : (X.env.scope.names.lookup y.1 == some .cell || X.env.scope.names.lookup y.1 == some .free) = true := by simpa using this
  rw [Bool.or_eq_true,beq_iff_eq,beq_iff_eq] at this
  exact this
 ·have := h4 x hx; simpa using this
section
variable {X : Cx} {elt tg iter : Expr} {ifs : List Expr} {scope : Scope} {pos : Pos} {fi : Dm.FI} {bd : Dm.FB} {is : List Nat} {t : Dm.FT} {f : Dm.FE}
theorem hl_of {l : List Nat} {n : Nat} (h : (l.all fun i => decide (n ≤ i)) = true) : ∀ i ∈ l,n ≤ i := fun i hi => of_decide_eq_true (List.all_eq_true.mp h i hi)
theorem d_cp (nm own : List Str) (hg : TGc X nm scope own tg is bd) (hi : DI X tg iter fi) (ht : ∀ cl C s H fp,DTs (compX X nm scope own cl C s H fp) ifs t) (he : ∀ cl C s H fp,DE (compX X nm scope own cl C s H fp) elt f)
  (hc : X.calm = true := by rfl) (hk : scope.kind = .function := by rfl) (hS : cscOk X.env.scope X.N nm scope = true := by rfl) (hl : (is.all fun i => decide (X.N.length ≤ i)) = true := by rfl) (hs : ∀ x,foldedSetIterable iter X.env x = pure x := by intro _; rfl) :
  DE X (.ListComp elt [⟨tg,iter,ifs,0⟩] scope pos) (Dm.eComp fi own.length bd t f) := d_comp hc (CScope.of hS hk) hi hg ht he (hl_of hl) hs
theorem s_cp (j : Nat) (nm own : List Str) {y : Str} {py spos : Pos} (hN : X.N.Nodup) (hg : TGc X nm scope own tg is bd) (hi : DI X tg iter fi) (ht : ∀ cl C s H fp,DTs (compX X nm scope own cl C s H fp) ifs t) (he : ∀ cl C s H fp,DE (compX X nm scope own cl C s H fp) elt f)
  (hc : X.calm = true := by rfl) (hk : scope.kind = .function := by rfl) (hS : cscOk X.env.scope X.N nm scope = true := by rfl) (hl : (is.all fun i => decide (X.N.length ≤ i)) = true := by rfl) (hj : X.N[j]? = some y := by rfl) (hy : Loc X.env.scope y := by first | exact Or.inl rfl | exact Or.inr rfl)
  (hsw : swapsWith (.ListComp elt [⟨tg,iter,ifs,0⟩] scope pos) (some (.Name y py)) spos.line X.env = pure true := by rfl) (hs : ∀ x,foldedSetIterable iter X.env x = pure x := by intro _; rfl)
  (hf : X.fn y = true ∨ X.env.scope.names.lookup y = some .local := by first | exact .inl rfl | exact .inr rfl | assumption) : DS X (.Assign [.Name y py] (.ListComp elt [⟨tg,iter,ifs,0⟩] scope pos) spos) (Dm.sA j (Dm.eComp fi own.length bd t f)) :=
 s_comp j hN hc (CScope.of hS hk) hi hg ht he (hl_of hl) hj hy hsw hs hf
end
theorem PI.or {X : Cx} {tg it : Expr} {t t' : TI} (h : PI X tg it t) (h' : PI X tg it t') : PI X tg it (fun σ H R => t σ H R ∨ t' σ H R) := fun pins s σ H R I q => q.elim (h pins s σ H R I) (h' pins s σ H R I)
theorem r_iS {K : PySem.W.Frag} {f : Dm.FE} {σ : L2.St} {H : Hp} {R : It → Hp → Prop} (h : tDI (Dm.iS f) σ H R) : iList K (tD f) σ H R ∨ iTup K (tD f) σ H R := by
 obtain ⟨H0,ρ,ys,ρ',st,e,k⟩ := h
 unfold Dm.iS at e
 split at e
 ·cases e
 rename_i x ρ1 e1
 split at e
 ·rename_i ds ρ2 e2
  cases e
  exact .inl (r_iL ⟨H0,ρ,_,_,st,by unfold Dm.iL; rw [e1]; dsimp only; rw [e2],k⟩)
 ·rename_i ds ρ2 e2
  cases e
  exact .inr (r_iT ⟨H0,ρ,_,_,st,by unfold Dm.iT; rw [e1]; dsimp only; rw [e2],k⟩)
 ·cases e
theorem i_S {X : Cx} {tg e : Expr} {f : Dm.FE} (h : DE X e f) : DI X tg e (Dm.iS f) := PI.weak (PI.or (pi_list h) (pi_tup h)) fun _ _ _ => r_iS
def noList (K : PySem.W.Frag) : Bool := K.all fun p => match p.2.cls with | .type n => n != "list" | _ => true
theorem lookup_mem {a : Addr} {o : Obj} : ∀ {K : List (Addr × Obj)},K.lookup a = some o → (a,o) ∈ K
 | [],h => by cases h
 | (b,x) :: r,h => by
  rw [List.lookup_cons] at h
  cases q : a == b with
  | true =>
   rw [q] at h
   cases h
   have : a = b := by simpa using q
   rw [this]
   exact List.mem_cons_self
  | false =>
   rw [q] at h
   exact List.mem_cons_of_mem _ (lookup_mem h)
theorem law_sp {f : List Dm.Dat → Option Dm.RV} {K : PySem.W.Frag} {H : Hp} {a : Addr} {ns : List Int} {E : XK} (hf : f [.lst (ns.map Dm.Dat.int)] = some (.val (.bl true))) (hK : noList K = true) (hS : SqL K H a (ns.map V.int)) :
  spD f [.ref a] H (fun v _ => v = .bl true) E := by
 have hq : Rd H a (.lst (ns.map V.int)) := by
  rcases hS with h | ⟨o,its,n,hk,hc,_⟩
  ·exact h
  ·have := List.all_eq_true.mp hK _ (lookup_mem hk)
   dsimp only at this
   rw [hc] at this
   exact absurd this (by decide)
 have hr : ∀ ns : List Int,Reps H (ns.map V.int) (ns.map Dm.Dat.int) := fun ns => by
  induction ns with
  | nil => exact .nil
  | cons n ns ih => exact .cons (.int n) ih
 exact ⟨H,_,_,Same.refl _,.cons (.lst hq (hr ns)) .nil,hf,fun v H0' H' _ r => Rep.isBl r⟩
end Br
namespace Dm
def iRd (a b c : FE) : FI := fun ρ => match a ρ with
 | some (.val (.int i),ρ1) => (match b ρ1 with
  | some (.val (.int j),ρ2) => (match c ρ2 with
   | some (.val (.int k),ρ3) => if k = -1 ∧ j ≤ BIG ∧ -BIG ≤ j ∧ i ≤ BIG ∧ -BIG ≤ i then some (downs i (i - j).toNat,ρ3) else none
   | _ => none)
  | _ => none)
 | _ => none
def enumD : Nat → List Dat → List Dat
 | _,[] => []
 | i,d :: ds => .tup [.int (i : Nat),d] :: enumD (i + 1) ds
def iEn (a : FE) : FI := fun ρ => match a ρ with
 | none => none
 | some (x,ρ1) => match tk ρ1 x with
  | some (.lst ds,ρ2) => some (enumD 0 ds,ρ2)
  | _ => none
end Dm
namespace Br
open PySem PySem.Spec PyProof.Rows L2
theorem inv_turns {X : Cx} {pins : List (Addr × Obj)} {σ : L2.St} {H : Hp} {s : Shared} {h' : Heap} {t' : Nat} {fp : List Addr} {p : Addr} {o : HO} (I : Inv X pins σ H s) (hf : ∀ b ∈ fp,FpOk X pins H b)
  (k : ∀ b u,b ∉ fp → s.heap.get? b = some u → h'.get? b = some u) (hp : s.heap.objs.size ≤ p) (new : ObjOk X.prog X.w (upd H p o) h' p o) : Inv X pins σ (upd H p o) { s with heap := h',toks := t' } := by
 have hn : H p = none := I.hok.fresh hp
 have nf : ∀ b u,H b = some u → b ∉ fp := fun b u e z => by rw [(hf b z).1] at e; cases e
 have nL : X.env.locals ∉ fp := fun z => (hf _ z).2.1 rfl
 refine I.step (g' := s.gens) (d' := s.drawn) (ch := fp) (fun b hb => ?_) (fun b u _ _ hc e _ => k b u hc e) (fun b u _ _ hc e _ => ⟨u.slots,k b u hc e⟩)
  (fun b u _ e n => by rw [upd_ne (Nat.ne_of_lt (Nat.lt_of_lt_of_le (Heap.lt_size e) hp))]; exact n) (fun b u hc e => ⟨u,k b u hc e⟩)
  (fun b xs q => by rw [upd_ne (ne_of_none q hn)]; exact q) (fun b u xs q => by rw [upd_ne (ne_of_none q hn)]; exact q) (fun b ps q => ⟨#[],by rw [upd_ne (ne_of_none q hn),q]; simp⟩) (fun m hm => ?_) (fun b u e => ?_) I.bare
 ·obtain ⟨f0,f1,f2,f3,f4,f5⟩ := hf b hb
  exact ⟨f3,f1,f4,f5⟩
 ·obtain ⟨o,es,ep,ho,r⟩ := hm
  exact ⟨o,es,ep,k _ o nL ho,r⟩
 ·by_cases hb : b = p
  ·subst hb; rw [upd_same] at e; cases e; exact new
  ·rw [upd_ne hb] at e
   refine (I.hok b u e).stay (fun c v hc q => k c v ?_ q) (fun c q => by rw [upd_ne (ne_of_none q hn)]; exact q) fun c xs q => by rw [upd_ne (ne_of_none q hn)]; exact q
   rcases hc with z | z
   ·rw [z]; exact nf b u e
   ·exact nf c _ z
section
variable {X : Cx} {tg l : Expr} {tl : TE} {p pos : Pos}
end
section
variable {X : Cx} {tg : Expr}
end
def Ite (K : PySem.W.Frag) (a : Addr) : It :=
 ⟨fun i H => ∃ xs x,SqL K H a xs ∧ xs[i]? = some x,fun i H x H' => ∃ p v,H p = none ∧ x = .ref p ∧ H' = upd H p (.tup [.int i,v]) ∧ ∀ xs,SqL K H a xs → xs[i]? = some v,fun i H => ∃ xs,SqL K H a xs ∧ xs.length ≤ i⟩
theorem turn_enum {P : Program} {w : World} {K : PySem.W.Frag} {elts : List Expr} {x1} {tp : Pos} (a e it : Addr) (hne : e ≠ it) : Turn P w K (.Tuple elts x1 tp) (Ite K a) [e,it] e (fun i h => (∃ old,IsEnum h e it (i : Nat) old) ∧ h.IsListIter it a i) where
 mem := by simp
 obj := fun i h st b hb => by
  obtain ⟨⟨old,he⟩,o,e1,c,d⟩ := st
  rcases List.mem_cons.mp hb with rfl | hb
  ·exact ⟨_,he,fun v z => by
    have z' : Data.fields _ = Data.cell v := z
    cases z'⟩
  ·have e2 : b = it := by simpa using hb
   subst e2
   exact ⟨o,e1,fun v z => by rw [d] at z; cases z⟩
 keep := fun i h h' st k => ⟨let ⟨old,he⟩ := st.1; ⟨old,k e (by simp) _ he⟩,st.2.at fun o z => k it (by simp) o z⟩
 item := by
  intro X hP hw hK hc i pins s σ H E I hf st hg
  subst hP hw hK
  obtain ⟨xs,x,hq,hx⟩ := hg
  obtain ⟨its,rv,p,hz⟩ := I.list hq
  obtain ⟨u,hu,ru⟩ := rv.get hx
  obtain ⟨⟨old,he⟩,hit⟩ := st
  refine wpAny_pyNext_enum_item he hit p.isList (x := u) (by simpa using hu) hne fun h1 heo hit1 ht1 hz1 hk1 => ?_
  refine ⟨_,rfl,wpAny_letOwnedTupleGo_enum heo fun h2 he2 hs2 => ?_⟩
  have hlt : e < s.heap.objs.size := Heap.lt_size he
  have ht2 : h2.get? s.heap.objs.size = some { cls := .type "tuple", data := .seq #[.int i s.toks, u] } := (hs2.2 _ (Nat.ne_of_gt hlt)).trans ht1
  have k2 : ∀ b o,b ∉ [e,it] → s.heap.get? b = some o → h2.get? b = some o := fun b o hb z => by
   have n1 : b ≠ e := fun y => hb (by simp [y])
   have n2 : b ≠ it := fun y => hb (by simp [y])
   exact (hs2.2 b n1).trans (hk1 b o n1 n2 z)
  have hn : H s.heap.objs.size = none := I.hok.fresh (Nat.le_refl _)
  have I2 : Inv X pins σ (upd H s.heap.objs.size (.tup [.int i,x])) { s with heap := h2,toks := s.toks + 1 } :=
   inv_turns I hf k2 (Nat.le_refl _) ⟨by simp [sizeLine],[.int i s.toks,u],.cons ⟨s.toks,rfl⟩ (.cons ru .nil),_,ht2,rfl,_,rfl⟩
  refine ⟨.ref s.heap.objs.size,_,I2,rfl,⟨_,x,hn,rfl,rfl,fun ys hy => by rw [I.list_inj hy hq]; exact hx⟩,⟨⟨u,?_⟩,?_⟩,fun b hb => ?_⟩
  ·have : (((i + 1 : Nat) : Int)) = (i : Int) + 1 := by omega
   rw [this]; exact he2
  ·exact hit1.at fun o z => (hs2.2 it (Ne.symm hne)).trans z
  ·have hb1 : b ≠ s.heap.objs.size := fun y => by
    rcases List.mem_cons.mp hb with z | z
    ·rw [y] at z; exact absurd z (Nat.ne_of_gt hlt)
    ·have z' : b = it := by simpa using z
     obtain ⟨o,ho,_⟩ := hit
     have := Heap.lt_size ho
     rw [← z',y] at this
     exact Nat.lt_irrefl _ this
   rw [upd_ne hb1]
   exact (hf b hb).1
 done := by
  intro X hP hw hK hc i pins s σ H E I hf st hg
  subst hP hw hK
  obtain ⟨xs,hq,hx⟩ := hg
  obtain ⟨its,rv,p,hz⟩ := I.list hq
  obtain ⟨f0,f1,f2,f3,f4,f5⟩ := hf it (by simp)
  obtain ⟨⟨old,he⟩,hit⟩ := st
  have hl := rv.length
  exact wpAny_pyNext_enum_end (I.ok.hd hc) he hit p.isList (by simp; omega) fun h' eb => ⟨rfl,I.turned (t' := s.toks) (fun b o hb e => eb b o hb e) f0 f1 f3 f4 f5⟩
 self := fun A i s Q E st h => by
  obtain ⟨⟨old,he⟩,hit⟩ := st
  have hT : s.TypeIs (.ref e) "enumerate" := ⟨_, he, rfl⟩
  refine wpAny_pyIter_slot hT F.slot_enumerate_iter (wpAny_call_entry F.slot_enumerate_iter hT F.entry_enumerate_iter ?_ (F.args_enumerate_iter_1 _))
  show wpAny _ _ (ret (.ref e)) _ _ s
  exact wpAny_pure ⟨_, rfl, "enumerate", _, hT, F.slot_enumerate_next.lookup, h⟩
def iEnL (K : PySem.W.Frag) (tl : TE) : TI := fun σ H R => tl σ H fun x H1 => ∃ a,x = .ref a ∧ (∃ xs,SqL K H1 a xs) ∧ R (Ite K a) H1
section
variable {X : Cx} {l : Expr} {tl : TE} {p pos : Pos} {elts : List Expr} {x1 : Nat} {tp : Pos}
theorem pi_enum (hg : Gl X "enumerate") (hm : X.mg "enumerate" = none) (hl : PE X l tl) (hs : starEach [l] X.env = [(false, eval l X.env)] := by rfl) : PI X (.Tuple elts x1 tp) (.Call (.Name "enumerate" p) [l] [] pos) (iEnL X.K tl) := by
 intro pins s σ H R I h
 refine Call_ (ld_blt I hg hm boot_enumerate (PyProof.Rows.callWith_type1 (spliced_more ?_ (by rw [hs]; rfl)) (by rw [hs]; rfl) rfl))
 refine thn (hl pins s σ H _ I h) fun v s1 ⟨x,H1,I1,r1,q1⟩ => ?_
 obtain ⟨a,e,⟨xs,hq⟩,q⟩ := q1
 subst e
 cases r1
 obtain ⟨its,rv,pl,hz⟩ := I1.list hq
 refine Calls.spliced_nil (call_enumerate_list pl.isList fun h' he hit hsz k => ?_)
 have I2 : Inv X pins σ H1 { s1 with heap := h' } := I1.kept (t' := s1.toks) k
 have T := turn_enum (P := X.prog) (w := X.w) (K := X.K) (elts := elts) (x1 := x1) (tp := tp) a (s1.heap.objs.size + 1) s1.heap.objs.size (Nat.succ_ne_self _)
 refine T.self X.A 0 { s1 with heap := h' } _ X.xe ⟨⟨_,he⟩,hit⟩ ?_
 refine ⟨s1.heap.objs.size + 1,[s1.heap.objs.size + 1,s1.heap.objs.size],_,_,H1,rfl,I2,T,⟨⟨_,he⟩,hit⟩,fun b hb => ?_,q⟩
 have : s1.heap.objs.size ≤ b := by
  rcases List.mem_cons.mp hb with rfl | hb
  ·exact Nat.le_succ _
  ·have : b = s1.heap.objs.size := by simpa using hb
   exact Nat.le_of_eq this.symm
 exact I1.fpOk this (I1.hok.fresh this)
end
section
variable {prog : Program} {w : World} {A : Around} {E : Value → Shared → Prop} {s : Shared}
end
theorem items_vals {P : Nat → Value → Prop} {acc : Array Value} {ys : List V} (h : ItemsOf P acc ys.length) (k : ∀ i v,P i v → i < ys.length → ∃ y,ys[i]? = some y ∧ RelV y v) : Vals ys acc.toList := by
 have : ∀ (ys : List V) (us : List Value),ys.length = us.length → (∀ (i : Nat) (u : Value),us[i]? = some u → ∃ y,ys[i]? = some y ∧ RelV y u) → Vals ys us := by
  intro ys
  induction ys with
  | nil => intro us e _; cases us with
   | nil => exact .nil
   | cons _ _ => cases e
  | cons y ys ih => intro us e f; cases us with
   | nil => cases e
   | cons u us =>
    obtain ⟨y',h1,h2⟩ := f 0 u rfl
    cases h1
    exact .cons h2 (ih us (by simpa using e) fun i u' hu => by simpa using f (i + 1) u' (by simpa using hu))
 refine this ys acc.toList (by have := h.1; simp only [Array.length_toList]; exact this.symm) fun i u hu => ?_
 have hu' : acc[i]? = some u := by rw [← Array.getElem?_toList]; exact hu
 have hi : i < ys.length := by
  rw [← h.1]
  exact (Array.getElem?_eq_some_iff.mp hu').1
 exact k i u (h.2 i u hu') hi
section
variable {X : Cx} {l a : Expr} {tl : TE} {ta : TA} {p pos p0 pos0 : Pos}
end
theorem enum_len : ∀ (ds : List Dm.Dat) (i : Nat),(Dm.enumD i ds).length = ds.length
 | [],_ => rfl
 | _ :: ds,i => by simp [Dm.enumD,enum_len ds]
theorem enum_get : ∀ (ds : List Dm.Dat) (i j : Nat) (d : Dm.Dat),(Dm.enumD i ds)[j]? = some d → ∃ x,ds[j]? = some x ∧ d = .tup [.int ((i + j : Nat) : Int),x]
 | [],_,_,_,h => by cases h
 | x :: ds,i,0,d,h => by cases h; exact ⟨x,rfl,rfl⟩
 | x :: ds,i,j + 1,d,h => by
  obtain ⟨y,h1,h2⟩ := enum_get ds (i + 1) j d h
  refine ⟨y,h1,?_⟩
  rw [h2]
  have : i + 1 + j = i + (j + 1) := by omega
  rw [this]
theorem jw_enum {K : PySem.W.Frag} {H0 : Hp} {a : Addr} {xs : List V} {ds : List Dm.Dat} (hq : Rd H0 a (.lst xs)) (rs : Reps H0 xs ds) : JW (Ite K a) H0 (Dm.enumD 0 ds) := by
 intro H0' H s0 s1
 have q : SqL K H a xs := .inl (Same.rd s1 (Same.rd s0 hq))
 refine ⟨fun i hi => ⟨xs,q,by rw [rs.length,← enum_len ds 0]; exact hi⟩,fun i d e => ?_⟩
 obtain ⟨d',hd,rfl⟩ := enum_get ds 0 i d e
 obtain ⟨v,hv,rv⟩ := rs.get hd
 refine ⟨⟨xs,v,q,hv⟩,fun x H' y => ?_⟩
 obtain ⟨p,v',hn,rfl,rfl,y⟩ := y
 have z := y xs q
 rw [hv] at z
 cases z
 have g := Grow.newS (o := HO.tup [.int i,v]) s1 hn
 refine ⟨_,g,.tup upd_same (.cons ?_ (.cons ((rv.mono s0).mono g.s0) .nil))⟩
 rw [Nat.zero_add]
 exact .int _
section
variable {σ : L2.St} {H : Hp} {R : It → Hp → Prop}
theorem r_iEn {K : PySem.W.Frag} {f : Dm.FE} (h : tDI (Dm.iEn f) σ H R) : iEnL K (tD f) σ H R := by
 obtain ⟨H0,ρ,ys,ρ',st,e,k⟩ := h
 unfold Dm.iEn at e
 split at e
 ·cases e
 rename_i x ρ1 e1
 split at e
 ·rename_i ds ρ2 e2
  cases e
  refine ⟨H0,ρ,_,ρ1,st,e1,fun v H0' H' t r => ?_⟩
  obtain ⟨H1,t1,b1,r1,_,_⟩ := take1 t (Same.refl _) r e2
  cases r1 with
  | lst q rs => exact ⟨_,rfl,⟨_,.inl (Same.rd t1.st.same q)⟩,k _ H1 H' t1 (jw_enum q rs)⟩
 ·cases e
end
section
variable {X : Cx} {tg e a b c : Expr} {f fa fb fc : Dm.FE} {p pos p0 pos0 : Pos} {elts : List Expr} {x1 : Nat} {tp : Pos}
theorem i_En (hg : Gl X "enumerate") (hm : X.mg "enumerate" = none) (h : DE X e f) (hs : starEach [e] X.env = [(false, eval e X.env)] := by rfl) : DI X (.Tuple elts x1 tp) (.Call (.Name "enumerate" p) [e] [] pos) (Dm.iEn f) := PI.weak (pi_enum hg hm h hs) fun _ _ _ => r_iEn
end
end Br
namespace Dm
def eCompM (i : Nat) (own : Nat) (bd : FB) (t : FT) (el : FE) : FE := fun ρ => match ρ[i]? with
 | some (.ow (.lst ds)) => if ds.length ≤ SZ then (match compD bd t el ds (ρ.set i .un ++ List.replicate own .un) [] with
  | none => none
  | some (ys,ρ2) => some (.new (.lst ys),(ρ2.take ρ.length).set i (.ow (.lst ds)))) else none
 | _ => eComp (iS (eV i)) own bd t el ρ
end Dm
namespace Br
open PySem PySem.Spec PyProof.Rows L2
theorem jwa_list {K : PySem.W.Frag} {H0 : Hp} {a : Addr} {xs : List V} {ds : List Dm.Dat} (rs : Reps H0 xs ds) : JWa (Itl K a) H0 (some (a,.lst xs)) ds := by
 intro H0' H s0 s1 hq
 have hq := hq _ rfl
 have q : SqL K H a xs := .inl (.inl hq)
 refine ⟨fun i hi => ⟨xs,q,by rw [rs.length]; exact hi⟩,fun i d e => ?_⟩
 obtain ⟨v,hv,rv⟩ := rs.get e
 refine ⟨⟨xs,v,q,hv⟩,fun x H' y => ?_⟩
 obtain ⟨e1,y⟩ := y
 subst e1
 have z := y xs q
 rw [hv] at z
 cases z
 exact ⟨H0',Grow.refl s1,rv.mono s0⟩
theorem r_compM {K : PySem.W.Frag} {σ : L2.St} {H : Hp} {i own : Nat} {bd : Dm.FB} {g : TG} {t : Dm.FT} {el : Dm.FE} {is : List Nat} {Q : VK} (hb : BD is g bd) (hl : ∀ i ∈ is,σ.length ≤ i) (h : tD (Dm.eCompM i own bd t el) σ H Q) :
  tLC (fun σ H R => iList K (tD (Dm.eV i)) σ H R ∨ iTup K (tD (Dm.eV i)) σ H R) own g (tDT t) (tD el) σ H Q := by
 obtain ⟨H0,ρ,x,ρ',st,e,k⟩ := h
 unfold Dm.eCompM at e
 split at e
 ·rename_i ds eo
  split at e
  case isFalse => cases e
  rename_i hsz
  split at e
  ·cases e
  rename_i ys ρ2 e2
  cases e
  refine .inl ⟨H0,ρ,.slot i,ρ,st,by unfold Dm.eV; rw [eo],fun v H0' H' t1 r => ?_⟩
  obtain ⟨a,qa,na,xs,ha,rs⟩ := t1.st.ow i _ eo
  obtain ⟨r1,_⟩ := r
  rw [qa] at r1
  cases r1
  have nO : ¬ Owned σ (ρ.set i .un) a := fun z => by
   obtain ⟨j,d,hj,h1,h2⟩ := owned_mask z
   exact hj (t1.st.dis j i d _ a h1 eo h2 qa)
  have hlt : i < ρ.length := (List.getElem?_eq_some_iff.mp eo).1
  refine ⟨a,rfl,⟨xs,.inl (.inl ha)⟩,fun D hD => comp_run hb hl (t1.st.mask i) (fun q e => by cases e; exact ⟨ha,na,nO⟩) (jwa_list rs) hsz e2 (fun v H1 Hc t2 r2 hpa => ?_) D hD⟩
  obtain ⟨ha2,na2⟩ := hpa _ rfl
  rw [List.length_set] at t2 r2
  have oo : ∀ b,Owned σ ((ρ2.take ρ.length).set i (.ow (.lst ds))) b → b = a ∨ Owned σ (ρ2.take ρ.length) b := fun b ⟨j,d,h1,h2⟩ => by
   by_cases q : i = j
   ·subst q; rw [qa] at h2; cases h2; exact .inl rfl
   ·rw [List.getElem?_set_ne q] at h1; exact .inr ⟨j,d,h1,h2⟩
  have om : ∀ b,Owned σ (ρ.set i .un) b → Owned σ ρ b := fun b z => by
   obtain ⟨j,d,hj,h1,h2⟩ := owned_mask z
   exact ⟨j,d,h1,h2⟩
  have oa : Owned σ ρ a := ⟨i,_,eo,qa⟩
  have nO2 : ¬ Owned σ (ρ2.take ρ.length) a := fun z => nO (t2.own a z)
  have len2 : (ρ2.take ρ.length).length = ρ.length := by rw [← t2.st.len,st.len]
  refine k v H1 Hc (t1.trans ⟨⟨t2.st.same,by rw [List.length_set]; exact t2.st.len,fun j d h => ?_,fun j d h => ?_,fun j j' d d' b h1 h2 h3 h4 => ?_⟩,t2.stp.wide om,fun b z => ?_,fun j z => ?_⟩) ?_
  ·by_cases q : i = j
   ·subst q; rw [List.getElem?_set_self (by rw [len2]; exact hlt)] at h; cases h
   ·rw [List.getElem?_set_ne q] at h; exact t2.st.sh j d h
  ·by_cases q : i = j
   ·subst q
    rw [List.getElem?_set_self (by rw [len2]; exact hlt)] at h
    cases h
    exact ⟨a,qa,na2,xs,ha2,rs.mono t2.stp.s0⟩
   ·rw [List.getElem?_set_ne q] at h; exact t2.st.ow j d h
  ·by_cases q : i = j
   ·subst q
    by_cases q' : i = j'
    ·exact q'
    ·rw [List.getElem?_set_ne q'] at h2
     rw [qa] at h3; cases h3
     exact absurd ⟨j',d',h2,h4⟩ nO2
   ·rw [List.getElem?_set_ne q] at h1
    by_cases q' : i = j'
    ·subst q'
     rw [qa] at h4; cases h4
     exact absurd ⟨j,d,h1,h3⟩ nO2
    ·rw [List.getElem?_set_ne q'] at h2
     exact t2.st.dis j j' d d' b h1 h2 h3 h4
  ·rcases oo b z with rfl | z
   ·exact oa
   ·exact om b (t2.own b z)
  ·trivial
  ·obtain ⟨D',e',n',no',n0',w'⟩ := r2
   refine ⟨D',e',t1.stp.gone n',fun z => ?_,n0',w'⟩
   rcases oo D' z with rfl | z
   ·rw [n'] at ha; cases ha
   ·exact no' z
 ·have h2 := r_comp (fi := Dm.iS (Dm.eV i)) hb hl ⟨H0,ρ,x,ρ',st,e,k⟩
  exact r_iS h2
section
variable {X : Cx} {elt tg : Expr} {ifs : List Expr} {scope : Scope} {pos px : Pos} {bd : Dm.FB} {is : List Nat} {t : Dm.FT} {f : Dm.FE} {x : Str}
theorem i_M (i : Nat) (h : DE X (.Name x px) (Dm.eV i)) : PI X tg (.Name x px) (fun σ H R => iList X.K (tD (Dm.eV i)) σ H R ∨ iTup X.K (tD (Dm.eV i)) σ H R) := PI.or (pi_list h) (pi_tup h)
theorem d_cpM (i : Nat) (nm own : List Str) (hg : TGc X nm scope own tg is bd) (hi : DE X (.Name x px) (Dm.eV i)) (ht : ∀ cl C s H fp,DTs (compX X nm scope own cl C s H fp) ifs t) (he : ∀ cl C s H fp,DE (compX X nm scope own cl C s H fp) elt f)
  (hc : X.calm = true := by rfl) (hk : scope.kind = .function := by rfl) (hS : cscOk X.env.scope X.N nm scope = true := by rfl) (hl : (is.all fun i => decide (X.N.length ≤ i)) = true := by rfl) (hs : ∀ y,foldedSetIterable (.Name x px) X.env y = pure y := by intro _; rfl) :
  DE X (.ListComp elt [⟨tg,.Name x px,ifs,0⟩] scope pos) (Dm.eCompM i own.length bd t f) := by
 obtain ⟨g,h1,h2⟩ := hg.ex
 intro pins s σ H Q I h
 exact pe_comp hc (CScope.of hS hk) (i_M i hi) h1 ht he hs pins s σ H Q I (r_compM h2 (fun i hi => by rw [I.len]; exact hl_of hl i hi) h)
end
end Br
namespace Dm
def zipD : List Dat → List Dat → List Dat
 | x :: xs,y :: ys => .tup [x,y] :: zipD xs ys
 | _,_ => []
def iZip (a b : FE) : FI := fun ρ => match eAs [a,b] ρ with
 | some (vs,ρ1) => (match tks ρ1 vs with
  | some ([.lst xs,.lst ys],ρ2) => some (zipD xs ys,ρ2)
  | _ => none)
 | none => none
end Dm
namespace Br
open PySem PySem.Spec PyProof.Rows L2
theorem inv_turned {X : Cx} {pins : List (Addr × Obj)} {σ : L2.St} {H : Hp} {s : Shared} {h' : Heap} {t' : Nat} {fp : List Addr} (I : Inv X pins σ H s) (hf : ∀ b ∈ fp,FpOk X pins H b)
  (k : ∀ b u,b ∉ fp → s.heap.get? b = some u → h'.get? b = some u) : Inv X pins σ H { s with heap := h',toks := t' } := by
 have nf : ∀ b u,H b = some u → b ∉ fp := fun b u e z => by rw [(hf b z).1] at e; cases e
 have nL : X.env.locals ∉ fp := fun z => (hf _ z).2.1 rfl
 refine I.step (g' := s.gens) (d' := s.drawn) (ch := fp) (fun b hb => ?_) (fun b u _ _ hc e _ => k b u hc e) (fun b u _ _ hc e _ => ⟨u.slots,k b u hc e⟩)
  (fun b u _ e n => n) (fun b u hc e => ⟨u,k b u hc e⟩)
  (fun b xs q => q) (fun b u xs q => q) (fun b ps q => ⟨#[],by rw [q]; simp⟩) (fun m hm => ?_) (fun b u e => ?_) I.bare
 ·obtain ⟨f0,f1,f2,f3,f4,f5⟩ := hf b hb
  exact ⟨f3,f1,f4,f5⟩
 ·obtain ⟨o,es,ep,ho,r⟩ := hm
  exact ⟨o,es,ep,k _ o nL ho,r⟩
 ·refine (I.hok b u e).stay (fun c v hc q => k c v ?_ q) (fun c q => q) fun c xs q => q
  rcases hc with z | z
  ·rw [z]; exact nf b u e
  ·exact nf c _ z
def Itz (K : PySem.W.Frag) (a b : Addr) : It :=
 ⟨fun i H => ∃ xs ys x y,SqL K H a xs ∧ SqL K H b ys ∧ xs[i]? = some x ∧ ys[i]? = some y,
  fun i H r H' => ∃ p x y,H p = none ∧ r = .ref p ∧ H' = upd H p (.tup [x,y]) ∧ (∀ xs,SqL K H a xs → xs[i]? = some x) ∧ ∀ ys,SqL K H b ys → ys[i]? = some y,
  fun i H => ∃ xs ys,SqL K H a xs ∧ SqL K H b ys ∧ (xs.length ≤ i ∨ ys.length ≤ i)⟩
theorem ne_cls {h : Heap} {a b : Addr} {o o' : Obj} (ha : h.get? a = some o) (hb : h.get? b = some o') (n : o.cls ≠ o'.cls) : a ≠ b := fun z => by
 subst z
 rw [ha] at hb
 cases hb
 exact n rfl
structure FpApart (z TI TO i1 i2 : Addr) : Prop where
 TIz : TI ≠ z
 TOz : TO ≠ z
 i1z : i1 ≠ z
 i2z : i2 ≠ z
 TITO : TI ≠ TO
 TIi1 : TI ≠ i1
 TIi2 : TI ≠ i2
 TOi1 : TO ≠ i1
 TOi2 : TO ≠ i2
 i12 : i1 ≠ i2
def ZipTn (a b z TI TO i1 i2 : Addr) (i : Nat) (h : Heap) : Prop := IsZip h z TI TO .none ∧ IsPair h TI (.ref i1) (.ref i2) ∧ (∃ x y,IsPair h TO x y) ∧ h.IsListIter i1 a i ∧ h.IsListIter i2 b i
theorem apart_of {h : Heap} {a b z TI TO i1 i2 : Addr} {i : Nat} {xs ys : Array Value} (F : FpApart z TI TO i1 i2) (st : ZipTn a b z TI TO i1 i2 i h) (ha : h.IsList a xs) (hb : h.IsList b ys) : ZipApart z TI TO i1 i2 a b := by
 obtain ⟨s1,s2,⟨x,y,s3⟩,s4,s5⟩ := st
 obtain ⟨o4,e4,c4,_⟩ := s4
 obtain ⟨o5,e5,c5,_⟩ := s5
 obtain ⟨oa,ea,ca,_⟩ := ha
 obtain ⟨ob,eb,cb,_⟩ := hb
 have d : ∀ {n m : String},n ≠ m → (Value.type n) ≠ (Value.type m) := fun q z => q (by injection z)
 exact ⟨F.TIz,F.TOz,F.i1z,F.i2z,F.TITO,F.TIi1,F.TIi2,F.TOi1,F.TOi2,F.i12,
  ne_cls ea s1 (by rw [ca]; exact d (by decide)),ne_cls ea s3 (by rw [ca]; exact d (by decide)),ne_cls ea e4 (by rw [ca,c4]; exact d (by decide)),ne_cls ea e5 (by rw [ca,c5]; exact d (by decide)),
  ne_cls eb s1 (by rw [cb]; exact d (by decide)),ne_cls eb s3 (by rw [cb]; exact d (by decide)),ne_cls eb e4 (by rw [cb,c4]; exact d (by decide)),ne_cls eb e5 (by rw [cb,c5]; exact d (by decide))⟩
theorem turn_zip {P : Program} {w : World} {K : PySem.W.Frag} {elts : List Expr} {x1} {tp : Pos} (a b z TI TO i1 i2 : Addr) (F : FpApart z TI TO i1 i2) : Turn P w K (.Tuple elts x1 tp) (Itz K a b) [z,TI,TO,i1,i2] z (ZipTn a b z TI TO i1 i2) where
 mem := by simp
 obj := fun i h st c hc => by
  obtain ⟨s1,s2,⟨x,y,s3⟩,⟨o4,e4,c4,d4⟩,⟨o5,e5,c5,d5⟩⟩ := st
  simp only [List.mem_cons,List.not_mem_nil,or_false] at hc
  rcases hc with rfl | rfl | rfl | rfl | rfl
  ·exact ⟨_,s1,fun v q => by have q' : Data.fields _ = Data.cell v := q; cases q'⟩
  ·exact ⟨_,s2,fun v q => by have q' : Data.seq _ _ = Data.cell v := q; cases q'⟩
  ·exact ⟨_,s3,fun v q => by have q' : Data.seq _ _ = Data.cell v := q; cases q'⟩
  ·exact ⟨o4,e4,fun v q => by rw [d4] at q; cases q⟩
  ·exact ⟨o5,e5,fun v q => by rw [d5] at q; cases q⟩
 keep := fun i h h' st k => by
  obtain ⟨s1,s2,⟨x,y,s3⟩,s4,s5⟩ := st
  exact ⟨k z (by simp) _ s1,k TI (by simp) _ s2,⟨x,y,k TO (by simp) _ s3⟩,s4.at fun o q => k i1 (by simp) o q,s5.at fun o q => k i2 (by simp) o q⟩
 item := by
  intro X hP hw hK hc i pins s σ H E I hf st hg
  subst hP hw hK
  obtain ⟨xs,ys,x,y,hq,hq',hx,hy⟩ := hg
  obtain ⟨its,rv,p,hz⟩ := I.list hq
  obtain ⟨its',rv',p',hz'⟩ := I.list hq'
  obtain ⟨u,hu,ru⟩ := rv.get hx
  obtain ⟨u',hu',ru'⟩ := rv'.get hy
  have D := apart_of F st p.isList p'.isList
  obtain ⟨s1,s2,⟨o1,o2,s3⟩,s4,s5⟩ := st
  have lt : ∀ {c o},s.heap.get? c = some o → c < s.heap.objs.size := fun q => Heap.lt_size q
  have l1 := lt s1
  have l2 := lt s2
  have l3 := lt s3
  have l4 : i1 < s.heap.objs.size := by obtain ⟨_,q,_⟩ := s4; exact lt q
  have l5 : i2 < s.heap.objs.size := by obtain ⟨_,q,_⟩ := s5; exact lt q
  refine wpAny_pyNext_zip_item D s1 s2 s3 s4 s5 p.isList p'.isList (x := u) (y := u') (by simpa using hu) (by simpa using hu') fun h1 a1 a2 a3 a4 a5 a6 hk => ?_
  refine ⟨_,rfl,wpAny_letOwnedTupleGo_zip a1 fun h2 z2 hs2 => ?_⟩
  have ht2 : h2.get? s.heap.objs.size = some { cls := .type "tuple", data := .seq #[u, u'] } := (hs2.2 _ (Nat.ne_of_gt l1)).trans a5
  have k2 : ∀ c o,c ∉ [z,TI,TO,i1,i2] → s.heap.get? c = some o → h2.get? c = some o := fun c o hc q => by
   simp only [List.mem_cons,List.not_mem_nil,or_false,not_or] at hc
   exact (hs2.2 c hc.1).trans (hk c o hc.1 hc.2.2.1 hc.2.2.2.1 hc.2.2.2.2 q)
  have hn : H s.heap.objs.size = none := I.hok.fresh (Nat.le_refl _)
  have I2 : Inv X pins σ (upd H s.heap.objs.size (.tup [x,y])) { s with heap := h2,toks := s.toks } :=
   inv_turns I hf k2 (Nat.le_refl _) ⟨by simp [sizeLine],[u,u'],.cons ru (.cons ru' .nil),_,ht2,rfl,_,rfl⟩
  refine ⟨.ref s.heap.objs.size,_,I2,rfl,⟨_,x,y,hn,rfl,rfl,fun vs hv => by rw [I.list_inj hv hq]; exact hx,fun vs hv => by rw [I.list_inj hv hq']; exact hy⟩,⟨z2,?_,⟨_,_,hs2.extBut _ _ D.TOz a2⟩,?_,?_⟩,fun c hc => ?_⟩
  ·exact hs2.extBut _ _ D.TIz (hk TI _ D.TIz D.TITO D.TIi1 D.TIi2 s2)
  ·exact a3.extBut hs2.extBut D.i1z
  ·exact a4.extBut hs2.extBut D.i2z
  ·have hc1 : c ≠ s.heap.objs.size := fun q => by
    simp only [List.mem_cons,List.not_mem_nil,or_false] at hc
    rcases hc with r | r | r | r | r
    ·subst r; rw [q] at l1; exact Nat.lt_irrefl _ l1
    ·subst r; rw [q] at l2; exact Nat.lt_irrefl _ l2
    ·subst r; rw [q] at l3; exact Nat.lt_irrefl _ l3
    ·subst r; rw [q] at l4; exact Nat.lt_irrefl _ l4
    ·subst r; rw [q] at l5; exact Nat.lt_irrefl _ l5
   rw [upd_ne hc1]
   exact (hf c hc).1
 done := by
  intro X hP hw hK hc i pins s σ H E I hf st hg
  subst hP hw hK
  obtain ⟨xs,ys,hq,hq',hx⟩ := hg
  obtain ⟨its,rv,p,hz⟩ := I.list hq
  obtain ⟨its',rv',p',hz'⟩ := I.list hq'
  have hl := rv.length
  have hl' := rv'.length
  have D := apart_of F st p.isList p'.isList
  obtain ⟨s1,s2,⟨o1,o2,s3⟩,s4,s5⟩ := st
  refine wpAny_pyNext_zip_end (I.ok.hd hc) D s1 s2 s3 s4 s5 p.isList p'.isList ?_ fun h' hk => ⟨rfl,inv_turned (t' := s.toks) I hf fun c o hc q => ?_⟩
  ·rcases hx with hx | hx
   ·exact .inl (by simp; omega)
   ·exact .inr (by simp; omega)
  ·simp only [List.mem_cons,List.not_mem_nil,or_false,not_or] at hc
   exact hk c o hc.1 hc.2.2.1 hc.2.2.2.1 hc.2.2.2.2 q
 self := fun A i s Q E st h => wpAny_pyIter_zip st.1 h
def iZipL (K : PySem.W.Frag) (ta : TA) : TI := fun σ H R => ta σ H fun vs H1 => ∃ a b,vs = [.ref a,.ref b] ∧ (∃ xs,SqL K H1 a xs) ∧ (∃ ys,SqL K H1 b ys) ∧ R (Itz K a b) H1
section
variable {X : Cx} {l l' : Expr} {ta : TA} {p pos : Pos} {elts : List Expr} {x1 : Nat} {tp : Pos}
theorem pi_zip (hg : Gl X "zip") (hm : X.mg "zip" = none) (ha : PA X [l, l'] ta) (hs : starEach [l, l'] X.env = (false, eval l X.env) :: starEach [l'] X.env := by rfl) (hs2 : (backTo pos (starEach [l'] X.env)).any (·.1) = false := by rfl) :
  PI X (.Tuple elts x1 tp) (.Call (.Name "zip" p) [l, l'] [] pos) (iZipL X.K ta) := by
 intro pins s σ H R I h
 refine Call_ (ld_blt I hg hm boot_zip (PyProof.Rows.callWith_type1 (thn (ha pos pins s σ H _ I h) fun us s1 ⟨vs,H1,I1,r1,q1⟩ => ?_) hs hs2))
 obtain ⟨a,b,e,⟨xs,hq⟩,⟨ys,hq'⟩,q⟩ := q1
 subst e
 obtain ⟨v1,v2,rfl,r,r'⟩ := vals2 r1
 cases r
 cases r'
 obtain ⟨its,rv,pl,hz⟩ := I1.list hq
 obtain ⟨its',rv',pl',hz'⟩ := I1.list hq'
 refine call_zip_2 pl.isList pl'.isList fun h' e1 e2 e3 e4 e5 hsz k => ?_
 have I2 : Inv X pins σ H1 { s1 with heap := h' } := I1.kept (t' := s1.toks) k
 have F : FpApart (s1.heap.objs.size + 4) (s1.heap.objs.size + 2) (s1.heap.objs.size + 3) s1.heap.objs.size (s1.heap.objs.size + 1) := by
  constructor <;> first | exact Nat.ne_of_lt (by omega) | exact Nat.ne_of_gt (by omega)
 have T := turn_zip (P := X.prog) (w := X.w) (K := X.K) (elts := elts) (x1 := x1) (tp := tp) a b _ _ _ _ _ F
 have st : ZipTn a b (s1.heap.objs.size + 4) (s1.heap.objs.size + 2) (s1.heap.objs.size + 3) s1.heap.objs.size (s1.heap.objs.size + 1) 0 h' := ⟨e1,e2,⟨_,_,e3⟩,e4,e5⟩
 refine T.self X.A 0 { s1 with heap := h' } _ X.xe st ?_
 refine ⟨s1.heap.objs.size + 4,_,_,_,H1,rfl,I2,T,st,fun c hc => ?_,q⟩
 have : s1.heap.objs.size ≤ c := by
  simp only [List.mem_cons,List.not_mem_nil,or_false] at hc
  rcases hc with r | r | r | r | r <;> (rw [r]; first | exact Nat.le_add_right _ _ | exact Nat.le_refl _)
 exact I1.fpOk this (I1.hok.fresh this)
end
theorem zip_len : ∀ (xs ys : List Dm.Dat),(Dm.zipD xs ys).length = min xs.length ys.length
 | [],_ => by simp [Dm.zipD]
 | _ :: _,[] => by simp [Dm.zipD]
 | x :: xs,y :: ys => by simp [Dm.zipD,zip_len xs ys]
theorem zip_get : ∀ (xs ys : List Dm.Dat) (j : Nat) (d : Dm.Dat),(Dm.zipD xs ys)[j]? = some d → ∃ x y,xs[j]? = some x ∧ ys[j]? = some y ∧ d = .tup [x,y]
 | [],_,_,_,h => by simp [Dm.zipD] at h
 | _ :: _,[],_,_,h => by simp [Dm.zipD] at h
 | x :: xs,y :: ys,0,d,h => by cases h; exact ⟨x,y,rfl,rfl,rfl⟩
 | x :: xs,y :: ys,j + 1,d,h => zip_get xs ys j d h
theorem jw_zip {K : PySem.W.Frag} {H0 : Hp} {a b : Addr} {xs ys : List V} {ds es : List Dm.Dat} (hq : Rd H0 a (.lst xs)) (rs : Reps H0 xs ds) (hq' : Rd H0 b (.lst ys)) (rs' : Reps H0 ys es) : JW (Itz K a b) H0 (Dm.zipD ds es) := by
 intro H0' H s0 s1
 have q : SqL K H a xs := .inl (Same.rd s1 (Same.rd s0 hq))
 have q' : SqL K H b ys := .inl (Same.rd s1 (Same.rd s0 hq'))
 refine ⟨fun i hi => ⟨xs,ys,q,q',?_⟩,fun i d e => ?_⟩
 ·rw [zip_len] at hi
  have := rs.length
  have := rs'.length
  omega
 obtain ⟨x,y,hx,hy,rfl⟩ := zip_get ds es i d e
 obtain ⟨v,hv,rv⟩ := rs.get hx
 obtain ⟨v',hv',rv'⟩ := rs'.get hy
 refine ⟨⟨xs,ys,v,v',q,q',hv,hv'⟩,fun r H' z => ?_⟩
 obtain ⟨p,u,u',hn,rfl,rfl,z1,z2⟩ := z
 have w1 := z1 xs q
 have w2 := z2 ys q'
 rw [hv] at w1
 rw [hv'] at w2
 cases w1
 cases w2
 have g := Grow.newS (o := HO.tup [v,v']) s1 hn
 exact ⟨_,g,.tup upd_same (.cons ((rv.mono s0).mono g.s0) (.cons ((rv'.mono s0).mono g.s0) .nil))⟩
section
variable {σ : L2.St} {H : Hp} {R : It → Hp → Prop}
theorem r_iZip {K : PySem.W.Frag} {f g : Dm.FE} (h : tDI (Dm.iZip f g) σ H R) : iZipL K (tDA [f,g]) σ H R := by
 obtain ⟨H0,ρ,ys,ρ',st,e,k⟩ := h
 unfold Dm.iZip at e
 split at e
 ·rename_i vs ρ1 e1
  split at e
  ·rename_i xs zs ρ2 e2
   cases e
   refine ⟨H0,ρ,vs,ρ1,st,e1,fun us H0' H' t r => ?_⟩
   obtain ⟨H1,t1,b1,r1⟩ := takes t (Same.refl _) r e2
   cases r1 with
   | cons q1 rr =>
    cases rr with
    | cons q2 rr =>
     cases rr
     cases q1 with
     | lst q rs =>
      cases q2 with
      | lst q' rs' => exact ⟨_,_,rfl,⟨_,.inl (Same.rd t1.st.same q)⟩,⟨_,.inl (Same.rd t1.st.same q')⟩,k _ H1 H' t1 (jw_zip q rs q' rs')⟩
  ·cases e
 ·cases e
end
section
variable {X : Cx} {a b : Expr} {fa fb : Dm.FE} {p pos : Pos} {elts : List Expr} {x1 : Nat} {tp : Pos}
theorem i_Zip (hg : Gl X "zip") (hm : X.mg "zip" = none) (ha : DA X [a, b] [fa, fb]) (hs : starEach [a, b] X.env = (false, eval a X.env) :: starEach [b] X.env := by rfl) (hs2 : (backTo pos (starEach [b] X.env)).any (·.1) = false := by rfl) :
  DI X (.Tuple elts x1 tp) (.Call (.Name "zip" p) [a, b] [] pos) (Dm.iZip fa fb) := PI.weak (pi_zip hg hm ha hs hs2) fun _ _ _ => r_iZip
end
end Br
namespace Dm
def fnM (n m : Nat) (body : FS) (ds : List Dat) : Option (RV × Dat) := if ds.length = n then (match ds with
 | d :: r => (match body (Cell.ow d :: (r.map Cell.sh ++ List.replicate m .un)) with
  | some (.ret z ρ') => (match ρ'[0]? with
   | some (Cell.ow d') => some (z,d')
   | _ => none)
  | some (.nx ρ') => (match ρ'[0]? with
   | some (Cell.ow d') => some (.val .non,d')
   | _ => none)
  | _ => none)
 | [] => none) else none
def flat : Dat → Bool
 | .tup xs => xs.all fun x => !isBox x
 | d => !isBox d
def plainL : Dat → Bool
 | .lst xs => xs.all fun x => !isBox x
 | _ => false
def eFm (f : List Dat → Option (RV × Dat)) (j : Nat) (as : List FE) : FE := fun ρ => match ρ[j]? with
 | some (.ow _) => (match eAs as ρ with
  | none => none
  | some (xs,ρ1) => (match ρ1[j]? with
   | some (.ow d1) => (match tks ρ1 xs with
    | none => none
    | some (ds,ρ2) => (match ρ2[j]? with
     | some (.ow d) => (match f (d :: ds) with
      | none => none
      | some (v,d') => if flat v.dat && plainL d' then some (v.toVal,ρ1.set j (.ow d')) else some (v.toVal,ρ2.set j (.ow d')))
     | _ => none))
   | _ => none))
 | _ => none
end Dm
namespace Br
open PySem PySem.Spec PyProof.Rows L2
def spM (f : List Dm.Dat → Option (Dm.RV × Dm.Dat)) : Sp := fun vs H Q _ => ∃ H0 a us d ds z d',vs = V.ref a :: us ∧ Same H0 H ∧ H0 a = none ∧ Own H0 H a d ∧ Reps H0 us ds ∧ f (d :: ds) = some (z,d') ∧
 ∀ v H0' H',Stp (fun b => b = a) H0 H H0' H' → Same H0' H' → H0' a = none → Own H0' H' a d' → RepR H H0' H' v z → Q v H'
theorem fnM_len {n m : Nat} {body : Dm.FS} {vs : List V} {H : Hp} {Q : VK} {E : XK} (h : spM (Dm.fnM n m body) vs H Q E) : vs.length = n := by
 obtain ⟨H0,a,us,d,ds,z,d',e,_,_,_,rs,ef,_⟩ := h
 unfold Dm.fnM at ef
 split at ef
 ·rename_i hl
  rw [e,List.length_cons,rs.length]
  simpa using hl
 ·cases ef
theorem RepSt.same_slot {H0 H : Hp} {σ : L2.St} {ρ : Dm.Env} {j : Nat} {a : Addr} {d : Dm.Dat} (st : RepSt H0 H σ ρ) (q : σ[j]? = some (some (V.ref a))) (no : ¬ Owned σ ρ a) (n0 : H0 a = none) (w : Own H0 H a d) : RepSt H0 H σ (ρ.set j (.ow d)) := by
 have := st.set_ow (i := j) no n0 w
 have e : σ.set j (some (V.ref a)) = σ := by
  apply List.ext_getElem?
  intro i
  by_cases h : j = i
  ·subst h
   have hl : j < σ.length := (List.getElem?_eq_some_iff.mp q).1
   rw [List.getElem?_set_self hl,q]
  ·rw [List.getElem?_set_ne h]
 rw [e] at this
 exact this
theorem RepSt.off {H0 H H0' H' : Hp} {σ : L2.St} {ρ : Dm.Env} {a : Addr} (st : RepSt H0 H σ ρ) (s0 : Same H0 H0') (ss : Same H0' H') (no : ¬ Owned σ ρ a) (s1 : ∀ b o,H b = some o → b ≠ a → H' b = some o) (s2 : ∀ (i : Nat) (d : Dm.Dat) (b : Addr),ρ[i]? = some (Dm.Cell.ow d) → σ[i]? = some (some (V.ref b)) → H0' b = none) : RepSt H0' H' σ ρ where
 same := ss
 len := st.len
 sh := fun i d e => by
  obtain ⟨v,q,r⟩ := st.sh i d e
  exact ⟨v,q,r.mono s0⟩
 ow := fun i d e => by
  obtain ⟨b,q,n,w⟩ := st.ow i d e
  obtain ⟨o,z⟩ := w.some
  have nb : b ≠ a := fun y => no ⟨i,d,e,y ▸ q⟩
  exact ⟨b,q,s2 i d b e q,w.mono s0 ((s1 b o z nb).trans z.symm)⟩
 dis := st.dis
theorem reps_plain {H0 H1 : Hp} : ∀ {xs : List V} {ds : List Dm.Dat},Reps H0 xs ds → (ds.all fun x => !Dm.isBox x) = true → Reps H1 xs ds
 | _,_,.nil,_ => .nil
 | _,_,.cons r rs,h => by
  rw [List.all_cons,Bool.and_eq_true] at h
  exact .cons (Rep.plain r (by simpa using h.1)) (reps_plain rs h.2)
section
variable {σ : L2.St} {H : Hp} {Q : VK}
theorem r_callM {f : List Dm.Dat → Option (Dm.RV × Dm.Dat)} {j : Nat} {fs : List Dm.FE} {E : XK} (h : tD (Dm.eFm f j fs) σ H Q) : tCall (spM f) [] E (tDA (Dm.eV j :: fs)) σ H Q := by
 obtain ⟨H0,ρ,x,ρ',st,e,k⟩ := h
 unfold Dm.eFm at e
 split at e
 case h_2 => cases e
 rename_i d0 h0
 split at e
 ·cases e
 rename_i xs ρ1 e1
 split at e
 case h_2 => cases e
 rename_i d1 h1
 split at e
 ·cases e
 rename_i ds ρ2 e2
 split at e
 case h_2 => cases e
 rename_i d h2
 split at e
 ·cases e
 rename_i z d' fz
 have ea : Dm.eAs (Dm.eV j :: fs) ρ = some (.slot j :: xs,ρ1) := by
  unfold Dm.eAs
  rw [show Dm.eV j ρ = some (.slot j,ρ) from by unfold Dm.eV; rw [h0]]
  dsimp only
  rw [e1]
 refine ⟨H0,ρ,.slot j :: xs,ρ1,st,ea,fun vs H1 Hb t1 r1 => ?_⟩
 dsimp only
 rw [List.append_nil]
 cases r1 with
 | cons r0 rr =>
  obtain ⟨H2,t2,b2,r2⟩ := takes t1 (Same.refl _) rr e2
  obtain ⟨a,qa,na,wa⟩ := t2.st.ow j d h2
  obtain ⟨q0,_⟩ := r0
  rw [qa] at q0
  cases q0
  obtain ⟨a1,qa1,na1,wa1⟩ := t1.st.ow j d1 h1
  rw [qa] at qa1
  cases qa1
  obtain ⟨oa,ha⟩ := wa.some
  have hl2 : j < ρ2.length := (List.getElem?_eq_some_iff.mp h2).1
  have hl1 : j < ρ1.length := (List.getElem?_eq_some_iff.mp h1).1
  have oa0 : Owned σ ρ a := t1.own a ⟨j,d1,h1,qa⟩
  refine ⟨H2,a,_,d,ds,z,d',rfl,t2.st.same,na,wa,r2,fz,fun v H3 Hd s3 ss n3 w3 r3 => ?_⟩
  have no2 : ¬ Owned σ (ρ2.set j .un) a := fun y => by
   obtain ⟨i,d4,hi,y1,y2⟩ := owned_mask y
   exact hi (t2.st.dis i j d4 d a y1 h2 y2 qa)
  have no1 : ¬ Owned σ (ρ1.set j .un) a := fun y => by
   obtain ⟨i,d4,hi,y1,y2⟩ := owned_mask y
   exact hi (t1.st.dis i j d4 d1 a y1 h1 y2 qa)
  split at e
  ·rename_i fl
   cases e
   rw [Bool.and_eq_true] at fl
   obtain ⟨f1,f2⟩ := fl
   have wp : ∀ H',Own H' Hd a d' := fun H' => by
    cases d' with
    | lst ys =>
     obtain ⟨us,y1,y2⟩ := w3
     exact ⟨us,y1,reps_plain y2 f2⟩
    | _ => cases f2
   have fin : ∀ H1' : Hp,Same H1 H1' → Same H1' Hd → (∀ b o,H1' b = some o → H1 b = some o ∨ ((∃ us,o = .tup us) ∧ H3 b = some o)) → RepV H H1' Hd σ (ρ1.set j (.ow d')) v z.toVal → Q v Hd := fun H1' m1 m2 m3 rv => by
    have hd3 : ∀ b,H1' b ≠ none → b ≠ a := fun b hb y => by
     subst y
     cases y2 : H1' b with
     | none => exact hb y2
     | some o =>
      rcases m3 b o y2 with y3 | ⟨_,y3⟩
      ·rw [na1] at y3; cases y3
      ·rw [n3] at y3; cases y3
    have n1' : H1' a = none := by
     cases y : H1' a with
     | none => rfl
     | some o => exact absurd rfl (hd3 a (by rw [y]; exact fun q => nomatch q))
    have sm : RepSt H1' Hd σ (ρ1.set j .un) := by
     refine (t1.st.mask j).off m1 m2 no1 (fun b o y nb => s3.s1 b o y nb) fun i d4 b y1 y2 => ?_
     obtain ⟨b',q',nb',w'⟩ := (t1.st.mask j).ow i d4 y1
     rw [y2] at q'
     cases q'
     cases y : H1' b with
     | none => rfl
     | some o =>
      rcases m3 b o y with y3 | ⟨⟨us,y4⟩,y3⟩
      ·rw [nb'] at y3; cases y3
      ·subst y4
       have nb : b ≠ a := hd3 b (by rw [y]; exact fun q => nomatch q)
       cases d4 with
       | lst _ =>
        obtain ⟨ws,z1,_⟩ := w'
        have z2 := s3.s1 b _ z1 nb
        rw [ss _ _ y3] at z2
        cases z2
       | dct _ _ =>
        obtain ⟨ws,z1,_⟩ := w'
        have z2 := s3.s1 b _ z1 nb
        rw [ss _ _ y3] at z2
        cases z2
       | _ => exact False.elim w'
    have sf : RepSt H1' Hd σ (ρ1.set j (.ow d')) := by
     have := sm.same_slot qa no1 n1' (wp H1')
     rw [List.set_set] at this
     exact this
    refine k v H1' Hd ⟨sf,⟨t1.stp.s0.trans m1,fun b o y nb => ?_,fun b o y => ?_,fun b o y => ?_⟩,fun b y => ?_,fun i y => ?_⟩ rv
    ·have y1 := t1.stp.s1 b o y nb
     exact s3.s1 b o y1 fun q => nb (by rw [q]; exact oa0)
    ·rcases m3 b o y with y3 | ⟨_,y3⟩
     ·exact t1.stp.s2 b o y3
     ·rcases s3.s2 b o y3 with y4 | y4 | y4
      ·exact .inl (t1.stp.gone y4)
      ·exact t2.stp.s2 b o y4
      ·subst y4; rw [n3] at y3; cases y3
    ·obtain ⟨o',y1⟩ := t1.stp.s3 b o y
     exact s3.s3 b o' y1
    ·obtain ⟨i,d4,y1,y2⟩ := y
     by_cases hi : j = i
     ·subst hi
      rw [qa] at y2
      cases y2
      exact oa0
     ·rw [List.getElem?_set_ne hi] at y1
      exact t1.own b ⟨i,d4,y1,y2⟩
    ·trivial
   have m0 : Same H1 Hd := fun b o y => s3.s1 b o (t1.st.same _ _ y) fun q => by rw [q,na1] at y; cases y
   cases z with
   | new d4 =>
    obtain ⟨_,_,_,_,w⟩ := r3
    cases d4 with
    | lst _ => cases f1
    | dct _ _ => cases f1
    | _ => exact False.elim w
   | val d4 =>
    have r3' : Rep H3 v d4 := r3
    cases d4 with
    | tup es =>
     cases r3' with
     | tup q rs =>
      rename_i a2 us
      have rp : Reps H1 us es := reps_plain rs f1
      refine fin (upd H1 a2 (.tup us)) (fun b o y => ?_) (fun b o y => ?_) (fun b o y => ?_) (.tup upd_same (reps_plain rs f1))
      ·by_cases hb : b = a2
       ·subst hb
        have := s3.s0 _ _ (b2 _ _ y)
        rw [q] at this
        rw [upd_same,this]
       ·rw [upd_ne hb]; exact y
      ·by_cases hb : b = a2
       ·subst hb
        rw [upd_same] at y
        cases y
        exact ss _ _ q
       ·rw [upd_ne hb] at y; exact m0 _ _ y
      ·by_cases hb : b = a2
       ·subst hb
        rw [upd_same] at y
        cases y
        exact .inr ⟨⟨us,rfl⟩,q⟩
       ·rw [upd_ne hb] at y; exact .inl y
    | lst _ => cases f1
    | dct _ _ => cases f1
    | exc _ => cases f1
    | fn _ => exact fin H1 (Same.refl _) m0 (fun b o y => .inl y) (Rep.plain r3' rfl)
    | non => exact fin H1 (Same.refl _) m0 (fun b o y => .inl y) (Rep.plain r3' rfl)
    | bl _ => exact fin H1 (Same.refl _) m0 (fun b o y => .inl y) (Rep.plain r3' rfl)
    | int _ => exact fin H1 (Same.refl _) m0 (fun b o y => .inl y) (Rep.plain r3' rfl)
    | str _ => exact fin H1 (Same.refl _) m0 (fun b o y => .inl y) (Rep.plain r3' rfl)
  ·cases e
   have sm : RepSt H3 Hd σ (ρ2.set j .un) := by
    refine (t2.st.mask j).off s3.s0 ss no2 (fun b o y nb => s3.s1 b o y nb) fun i d4 b y1 y2 => ?_
    obtain ⟨b',q',nb',w'⟩ := (t2.st.mask j).ow i d4 y1
    rw [y2] at q'
    cases q'
    obtain ⟨ob,hob⟩ := w'.some
    cases y : H3 b with
    | none => rfl
    | some o =>
     rcases s3.s2 b o y with y3 | y3 | y3
     ·rw [hob] at y3; cases y3
     ·rw [nb'] at y3; cases y3
     ·exact absurd ⟨i,d4,y1,y3 ▸ y2⟩ no2
   have sf : RepSt H3 Hd σ (ρ2.set j (.ow d')) := by
    have := sm.same_slot qa no2 n3 w3
    rw [List.set_set] at this
    exact this
   have of : ∀ b,Owned σ (ρ2.set j (.ow d')) b → b = a ∨ Owned σ ρ2 b := fun b ⟨i,d4,y1,y2⟩ => by
    by_cases hi : j = i
    ·subst hi
     rw [qa] at y2
     cases y2
     exact .inl rfl
    ·rw [List.getElem?_set_ne hi] at y1
     exact .inr ⟨i,d4,y1,y2⟩
   refine k v H3 Hd ⟨sf,t2.stp.trans s3 (fun b y => .inl (y ▸ oa0)),fun b y => ?_,fun i y => ?_⟩ ?_
   ·rcases of b y with y | y
    ·exact y ▸ oa0
    ·exact t2.own b y
   ·trivial
   ·cases z with
    | val d4 => exact r3
    | new d4 =>
     obtain ⟨b,y0,y1,y2,y3⟩ := r3
     refine ⟨b,y0,t2.stp.gone y1,fun y => ?_,y2,y3⟩
     rcases of b y with y | y
     ·subst y; rw [ha] at y1; cases y1
     ·exact t2.st.notOwned y1 y
end
theorem d_callM {X : Cx} {es : List Expr} {p pos px : Pos} {k : Nat} {F : Addr} {fd : FuncData} {ps : List Str} {g : List Dm.Dat → Option (Dm.RV × Dm.Dat)} {x y : Str} {j : Nat} {fs : List Dm.FE} (G : FnOk X.prog X.w X.K X.mg X.base CX0 k F fd ps (spM g)) (hr : Room k X.A) (hg : Gl X x) (hm : X.mg x = some (.ref F)) (hk : PySem.W.keepIn X.K (.ref F) = true) (hb : Binds X.K fd ps [])
  (ha : DA X (.Name y px :: es) (Dm.eV j :: fs)) (hdb : (x == ("__debug__" : Str)) = false := by decide) (he : starEach (.Name y px :: es) X.env = (false, eval (.Name y px) X.env) :: starEach es X.env := by rfl) (hpl : (backTo pos (starEach es X.env)).any (·.1) = false := by rfl) :
  DE X (.Call (.Name x p) (.Name y px :: es) [] pos) (Dm.eFm g j fs) := PE.weak (pe_call G hr hg hm hk hb .nil (pass0 (X := X)) ha hdb he hpl) fun _ _ _ => r_callM
theorem r_fnM {N : List Str} {n m : Nat} {body : Dm.FS} {vs : List V} {H : Hp} {Q : VK} {E : XK} (hm : N.length = n + m) (h : spM (Dm.fnM n m body) vs H Q E) :
  tDS body { nx := fun _ H' => Q .non H',rt := Q } (start N vs) H := by
 have hvn := fnM_len h
 obtain ⟨H0,a,us,d,ds,z,d',e,s,na,wa,rs,ef,k⟩ := h
 subst e
 have hl := rs.length
 rw [List.length_cons] at hvn
 have e0 : (start N (V.ref a :: us))[0]? = some (some (V.ref a)) := rfl
 have get : ∀ {i : Nat} {c : Dm.Cell},(Dm.Cell.ow d :: (ds.map Dm.Cell.sh ++ List.replicate m .un))[i]? = some c → (i = 0 ∧ c = .ow d) ∨ (∃ i' d4,i = i' + 1 ∧ ds[i']? = some d4 ∧ c = .sh d4) ∨ c = .un := fun {i c} y => by
  cases i with
  | zero => cases y; exact .inl ⟨rfl,rfl⟩
  | succ i =>
   rw [List.getElem?_cons_succ] at y
   by_cases hi : i < ds.length
   ·rw [List.getElem?_append_left (by simpa using hi),List.getElem?_map,List.getElem?_eq_getElem hi] at y
    cases y
    exact .inr (.inl ⟨i,ds[i],rfl,List.getElem?_eq_getElem hi,rfl⟩)
   ·rw [List.getElem?_append_right (by simpa using hi),List.getElem?_replicate] at y
    split at y
    ·cases y; exact .inr (.inr rfl)
    ·cases y
 have ow0 : ∀ {i : Nat} {d4 : Dm.Dat},(Dm.Cell.ow d :: (ds.map Dm.Cell.sh ++ List.replicate m .un))[i]? = some (.ow d4) → i = 0 ∧ d4 = d := fun {i d4} y => by
  rcases get y with ⟨y1,y2⟩ | ⟨_,_,_,_,y2⟩ | y2
  ·cases y2; exact ⟨y1,rfl⟩
  ·cases y2
  ·cases y2
 have oa : ∀ b,Owned (start N (V.ref a :: us)) (Dm.Cell.ow d :: (ds.map Dm.Cell.sh ++ List.replicate m .un)) b → b = a := fun b ⟨i,d4,y1,y2⟩ => by
  obtain ⟨y3,_⟩ := ow0 y1
  subst y3
  rw [e0] at y2
  cases y2
  rfl
 have st : RepSt H0 H (start N (V.ref a :: us)) (Dm.Cell.ow d :: (ds.map Dm.Cell.sh ++ List.replicate m .un)) := by
  refine ⟨s,?_,fun i d4 y => ?_,fun i d4 y => ?_,fun i i' d4 d5 b y1 y2 _ _ => (ow0 y1).1.trans (ow0 y2).1.symm⟩
  ·unfold L2.start
   simp only [List.length_append,List.length_map,List.length_replicate,List.length_cons]
   omega
  ·rcases get y with ⟨_,y2⟩ | ⟨i',d5,y1,y2,y3⟩ | y2
   ·cases y2
   ·cases y3
    subst y1
    obtain ⟨v,hv,r⟩ := rs.get y2
    refine ⟨v,?_,r⟩
    have hi : i' < us.length := (List.getElem?_eq_some_iff.mp hv).1
    unfold L2.start
    rw [List.getElem?_append_left (by simp; omega),List.getElem?_map,List.getElem?_cons_succ,hv]
    rfl
   ·cases y2
  ·obtain ⟨y1,y2⟩ := ow0 y
   subst y1 y2
   exact ⟨a,e0,na,wa⟩
 have fin : ∀ {σ' : L2.St} {ρ' : Dm.Env} {H0' H' : Hp},SSt (start N (V.ref a :: us)) (Dm.Cell.ow d :: (ds.map Dm.Cell.sh ++ List.replicate m .un)) H0 H σ' ρ' H0' H' → ρ'[0]? = some (.ow d') → Stp (fun b => b = a) H0 H H0' H' ∧ H0' a = none ∧ Own H0' H' a d' ∧ Owned σ' ρ' a := fun {σ' ρ' H0' H'} t y => by
  obtain ⟨a',q',n',w'⟩ := t.st.ow 0 d' y
  have fx := t.fx
  rw [e0,q'] at fx
  cases fx
  exact ⟨t.stp.wide fun b z => oa b z,n',w',0,d',y,q'⟩
 unfold Dm.fnM at ef
 split at ef
 case isFalse => cases ef
 dsimp only at ef
 split at ef
 ·rename_i z' ρ' e1
  split at ef
  case h_2 => cases ef
  rename_i d4 y
  cases ef
  refine ⟨H0,_,_,st,e1,fun σ' v H0' H' t r no => ?_⟩
  obtain ⟨f1,f2,f3,f4⟩ := fin t y
  refine k v H0' H' f1 t.st.same f2 f3 ?_
  cases z with
  | val d5 => exact r
  | new d5 =>
   obtain ⟨b,y0,y1,y2,y3⟩ := r
   refine ⟨b,y0,?_,y2,y3⟩
   rcases y1 with y1 | y1
   ·exact y1
   ·exact absurd f4 (oa b y1 ▸ no d5 b rfl y0)
 ·rename_i ρ' e1
  split at ef
  case h_2 => cases ef
  rename_i d4 y
  cases ef
  refine ⟨H0,_,_,st,e1,fun σ' H0' H' t => ?_⟩
  obtain ⟨f1,f2,f3,f4⟩ := fin t y
  exact k _ H0' H' f1 t.st.same f2 f3 .non
 ·cases ef
end Br
namespace Dm
def lookD : List Int → List Dat → Int → Option Dat
 | k :: ks,v :: vs,i => if k = i then some v else lookD ks vs i
 | _,_,_ => none
def replD : List Int → List Dat → Int → Dat → List Dat
 | k :: ks,v :: vs,i,d => (if k = i then d else v) :: replD ks vs i d
 | _,_,_,_ => []
def putKs (ks : List Int) (i : Int) : List Int := if (ks.any fun k => decide (k = i)) = true then ks else ks ++ [i]
def putVs (ks : List Int) (vs : List Dat) (i : Int) (d : Dat) : List Dat := if (ks.any fun k => decide (k = i)) = true then replD ks vs i d else vs ++ [d]
def gDx : Dat → Dat → Option RV
 | .dct ks vs,.int i => (lookD ks vs i).map .val
 | _,_ => none
def gDin : Dat → Dat → Option RV
 | .int i,.dct ks vs => vB (lookD ks vs i).isSome
 | _,_ => none
def gDnin : Dat → Dat → Option RV
 | .int i,.dct ks vs => vB (!(lookD ks vs i).isSome)
 | _,_ => none
def eD1 (a b : FE) : FE := fun ρ => match a ρ with
 | some (.val (.int i),ρ1) => (match b ρ1 with
  | none => none
  | some (x,ρ2) => match tk ρ2 x with
   | none => none
   | some (d,ρ3) => some (.new (.dct [i] [d]),ρ3))
 | _ => none
def sDput (i : Nat) (j e : FE) : FS := fun ρ => match e ρ with
 | none => none
 | some (x,ρ1) => match tk ρ1 x with
  | none => none
  | some (d,ρ2) => match ρ2[i]? with
   | some (.ow _) => (match j ρ2 with
    | some (.val (.int k),ρ3) => (match ρ3[i]? with
     | some (.ow (.dct ks vs)) => if ks.length < SZ then some (.nx (ρ3.set i (.ow (.dct (putKs ks k) (putVs ks vs k d))))) else none
     | _ => none)
    | _ => none)
   | _ => none
end Dm
namespace Br
open PySem PySem.Spec PyProof.Rows L2
theorem repO_dct {H0 H : Hp} (s : Same H0 H) {v : V} {ks : List Int} {ds : List Dm.Dat} (r : RepO H0 H v (.dct ks ds)) : ∃ a kvs,v = .ref a ∧ H a = some (.dK kvs) ∧ kvs.map (·.1) = ks.map Sum.inl ∧ Reps H0 (kvs.map (·.2)) ds := by
 rcases r with r | ⟨a,e,kvs,q,ek,rs⟩
 ·cases r with
  | dct q ek rs => exact ⟨_,_,rfl,s _ _ q,ek,rs⟩
 ·exact ⟨a,kvs,e,q,ek,rs⟩
theorem inl_ne {a b : Int} (h : ¬ a = b) : ¬ (Sum.inl a : Key) = Sum.inl b := fun q => h (Sum.inl.inj q)
theorem look_ok {H0 : Hp} (i : Int) : ∀ {kvs : List (Key × V)} {ks : List Int} {ds : List Dm.Dat},kvs.map (·.1) = ks.map Sum.inl → Reps H0 (kvs.map (·.2)) ds →
  (∃ d v,Dm.lookD ks ds i = some d ∧ valV kvs (Sum.inl i) = some v ∧ Rep H0 v d) ∨ (Dm.lookD ks ds i = none ∧ valV kvs (Sum.inl i) = none)
 | [],[],_,_,r => by cases r; exact .inr ⟨rfl,rfl⟩
 | [],_ :: _,_,e,_ => by cases e
 | _ :: _,[],_,e,_ => by cases e
 | (k0,v0) :: kvs,k :: ks,_,e,r => by
  rw [List.map_cons] at r
  cases r with
  | cons r0 rr =>
   rw [List.map_cons,List.map_cons] at e
   injection e with e1 e2
   have e1 : k0 = Sum.inl k := e1
   subst e1
   unfold Dm.lookD
   by_cases h : k = i
   ·subst h
    rw [if_pos rfl]
    exact .inl ⟨_,v0,rfl,valV_pos rfl,r0⟩
   ·rw [if_neg h,valV_neg (inl_ne h)]
    exact look_ok i e2 rr
theorem any_ok (i : Int) : ∀ {kvs : List (Key × V)} {ks : List Int},kvs.map (·.1) = ks.map Sum.inl → (kvs.any fun kv => decide (kv.1 = Sum.inl i)) = (ks.any fun k => decide (k = i))
 | [],[],_ => rfl
 | [],_ :: _,e => by cases e
 | _ :: _,[],e => by cases e
 | (k0,v0) :: kvs,k :: ks,e => by
  rw [List.map_cons,List.map_cons] at e
  injection e with e1 e2
  have e1 : k0 = Sum.inl k := e1
  subst e1
  rw [List.any_cons,List.any_cons,any_ok i e2]
  congr 1
  by_cases h : k = i
  ·subst h; simp
  ·have := inl_ne h; simp [h,this]
theorem repl_ok {H0 : Hp} (i : Int) {v : V} {d : Dm.Dat} (rv : Rep H0 v d) : ∀ {kvs : List (Key × V)} {ks : List Int} {ds : List Dm.Dat},kvs.map (·.1) = ks.map Sum.inl → Reps H0 (kvs.map (·.2)) ds →
  ((kvs.map fun kv => if kv.1 = Sum.inl i then (kv.1,v) else kv).map (·.1) = ks.map Sum.inl) ∧ Reps H0 ((kvs.map fun kv => if kv.1 = Sum.inl i then (kv.1,v) else kv).map (·.2)) (Dm.replD ks ds i d)
 | [],[],_,_,r => by cases r; exact ⟨rfl,.nil⟩
 | [],_ :: _,_,e,_ => by cases e
 | _ :: _,[],_,e,_ => by cases e
 | (k0,v0) :: kvs,k :: ks,_,e,r => by
  rw [List.map_cons] at r
  cases r with
  | cons r0 rr =>
   rw [List.map_cons,List.map_cons] at e
   injection e with e1 e2
   have e1 : k0 = Sum.inl k := e1
   subst e1
   obtain ⟨i1,i2⟩ := repl_ok i rv e2 rr
   unfold Dm.replD
   by_cases h : k = i
   ·subst h
    rw [if_pos rfl,List.map_cons,List.map_cons,List.map_cons,i1]
    simp only [if_true]
    exact ⟨trivial,.cons rv i2⟩
   ·rw [if_neg h,List.map_cons,List.map_cons,List.map_cons,i1]
    have := inl_ne h
    simp only [this,if_false]
    exact ⟨trivial,.cons r0 i2⟩
theorem put_ok {H0 : Hp} (i : Int) {v : V} {d : Dm.Dat} (rv : Rep H0 v d) {kvs : List (Key × V)} {ks : List Int} {ds : List Dm.Dat} (e : kvs.map (·.1) = ks.map Sum.inl) (r : Reps H0 (kvs.map (·.2)) ds) :
  (putK kvs (Sum.inl i) v).map (·.1) = (Dm.putKs ks i).map Sum.inl ∧ Reps H0 ((putK kvs (Sum.inl i) v).map (·.2)) (Dm.putVs ks ds i d) := by
 have ha := any_ok i e
 unfold putK Dm.putKs Dm.putVs
 rw [ha]
 cases hb : (ks.any fun k => decide (k = i)) with
 | true =>
  simp only [if_true]
  exact repl_ok i rv e r
 | false =>
  simp only [Bool.false_eq_true,if_false]
  rw [List.map_append,List.map_append,List.map_append,e]
  exact ⟨rfl,r.append (.cons rv .nil)⟩
theorem od_dx : OpD (fun x y H Q => ∃ a v,x = .ref a ∧ DGet H a y (some v) ∧ Q v H) Dm.gDx := by
 intro H0 H x y dx dy z Q s rx ry e k
 unfold Dm.gDx at e
 split at e
 ·rename_i ks vs i
  cases repO_int ry
  obtain ⟨a,kvs,rfl,qa,ek,rs⟩ := repO_dct s rx
  rcases look_ok i ek rs with ⟨d,v,l1,l2,r⟩ | ⟨l1,_⟩
  ·rw [l1] at e
   cases e
   refine ⟨a,v,rfl,?_,k _ H0 H (Grow.refl s) r⟩
   have := DGet.k (k := Sum.inl i) qa
   rw [l2] at this
   exact this
  ·rw [l1] at e; cases e
 ·cases e
theorem od_din : OpD (fun y x H Q => ∃ a o,x = .ref a ∧ DGet H a y o ∧ Q (.bl o.isSome) H) Dm.gDin := by
 intro H0 H x y dx dy z Q s rx ry e k
 unfold Dm.gDin at e
 split at e
 ·rename_i i ks vs
  cases e
  cases repO_int rx
  obtain ⟨a,kvs,rfl,qa,ek,rs⟩ := repO_dct s ry
  refine ⟨a,_,rfl,DGet.k (k := Sum.inl i) qa,k _ H0 H (Grow.refl s) ?_⟩
  rcases look_ok i ek rs with ⟨d,v,l1,l2,r⟩ | ⟨l1,l2⟩
  ·rw [l1,l2]; exact .bl _
  ·rw [l1,l2]; exact .bl _
 ·cases e
theorem od_dnin : OpD (fun y x H Q => ∃ a o,x = .ref a ∧ DGet H a y o ∧ Q (.bl (!o.isSome)) H) Dm.gDnin := by
 intro H0 H x y dx dy z Q s rx ry e k
 unfold Dm.gDnin at e
 split at e
 ·rename_i i ks vs
  cases e
  cases repO_int rx
  obtain ⟨a,kvs,rfl,qa,ek,rs⟩ := repO_dct s ry
  refine ⟨a,_,rfl,DGet.k (k := Sum.inl i) qa,k _ H0 H (Grow.refl s) ?_⟩
  rcases look_ok i ek rs with ⟨d,v,l1,l2,r⟩ | ⟨l1,l2⟩
  ·rw [l1,l2]; exact .bl _
  ·rw [l1,l2]; exact .bl _
 ·cases e
section
variable {σ : L2.St} {H : Hp} {Q : VK} {D : Ends}
theorem r_dput {i : Nat} {j f : Dm.FE} (h : tDS (Dm.sDput i j f) D σ H) : sDPut (tVar i) (tD j) (tD f) D σ H := by
 obtain ⟨H0,ρ,o,st,e,k⟩ := h
 unfold Dm.sDput at e
 split at e
 ·cases e
 rename_i x ρ1 e1
 split at e
 ·cases e
 rename_i d ρ2 e2
 split at e
 case h_2 => cases e
 rename_i d0 h2
 split at e
 ·rename_i m ρ3 e3
  split at e
  ·rename_i ks vs h3
   split at e
   case isFalse => cases e
   rename_i hz
   cases e
   refine ⟨H0,ρ,_,ρ1,st,e1,fun v H0' H' t r => ?_⟩
   obtain ⟨H1,t1,b1,r1,_,_⟩ := take1 t (Same.refl _) r e2
   obtain ⟨a0,q0,_,_⟩ := t1.st.ow i _ h2
   refine ⟨_,q0,H1,ρ2,_,ρ3,t1.st,e3,fun u H2 Hc t2 r2 => ?_⟩
   obtain ⟨a,q,n,w⟩ := t2.st.ow i _ h3
   rw [q0] at q
   cases q
   obtain ⟨kvs,y,ek,rs⟩ := w
   have hu := Rep.isInt r2
   subst hu
   obtain ⟨p1,p2⟩ := put_ok m (r1.mono t2.stp.s0) ek rs
   have hlen : kvs.length = ks.length := by
    have := congrArg List.length ek
    simpa using this
   refine ⟨a0,_,rfl,DPut.k (k := Sum.inl m) y (by rw [hlen]; exact Nat.lt_of_lt_of_le hz (by decide)),?_⟩
   have ow : Owned σ ρ3 a0 := ⟨i,_,h3,q0⟩
   have tt := t1.trans t2
   exact k σ H2 _ ⟨t2.st.write h3 q0 ⟨_,upd_same,p1,p2⟩,tt.stp.trans (Stp.write ow) fun b z => .inl (tt.own b z),fun b z => .inl (tt.own b (owned_write h3 z)),rfl⟩
  ·cases e
 ·cases e
theorem r_d1 {fa fb : Dm.FE} (h : tD (Dm.eD1 fa fb) σ H Q) : tDisp [(tD fa,tD fb)] σ H Q := by
 obtain ⟨H0,ρ,x,ρ',st,e,k⟩ := h
 unfold Dm.eD1 at e
 split at e
 ·rename_i i ρ1 e1
  split at e
  ·cases e
  rename_i y ρ2 e2
  split at e
  ·cases e
  rename_i d ρ3 e3
  cases e
  intro p hp
  have n0 : H0 p = none := st.same.free hp
  have no : ¬ Owned σ ρ p := st.notOwned hp
  refine ⟨H0,ρ,_,ρ1,st.aside n0 no,e1,fun u H1 Hb t1 r1 => ⟨H1,ρ1,y,ρ2,t1.st,e2,fun v H2 Hc t2 r2 => ?_⟩⟩
  have tt := t1.trans t2
  obtain ⟨H3,t3,b3,r3,_,_⟩ := take1 tt (Same.refl _) (r2.early fun a n => t1.stp.gone n) e3
  obtain ⟨hp3,n3,no3⟩ := t3.stay0 (o := HO.dK []) upd_same n0 no
  have hu := Rep.isInt r1
  subst hu
  refine ⟨hp3,[(Sum.inl i,v)],rfl,(by simp),?_⟩
  have em : mergeK [] [((Sum.inl i : Key),v)] = [(Sum.inl i,v)] := rfl
  rw [em]
  refine k _ H3 _ ⟨t3.st.aside n3 no3,⟨t3.stp.s0,fun a o y nb => ?_,fun a o y => ?_,fun a o y => ?_⟩,t3.own,t3.dfn⟩ ⟨p,rfl,hp,no3,n3,_,upd_same,rfl,.cons r3 .nil⟩
  ·have ne : a ≠ p := fun q => by rw [q,hp] at y; cases y
   rw [upd_ne ne]
   exact t3.stp.s1 a o (by rw [upd_ne ne]; exact y) nb
  ·rcases t3.stp.s2 a o y with y1 | y1 | y1
   ·by_cases ne : a = p
    ·subst ne; rw [n3] at y; cases y
    ·rw [upd_ne ne] at y1; exact .inl y1
   ·exact .inr (.inl y1)
   ·exact .inr (.inr y1)
  ·have ne : a ≠ p := fun q => by rw [q,hp] at y; cases y
   rw [upd_ne ne]
   exact t3.stp.s3 a o (by rw [upd_ne ne]; exact y)
 ·cases e
end
theorem u1 {k : Nat} {A : Around} (hr : Room k A) : A.units + 1 < cLine := Nat.lt_of_le_of_lt (Nat.add_le_add_left (by decide) _) hr.units
section
variable {X : Cx} {a b e : Expr} {fa fb f : Dm.FE} {pos : Pos} {k : Nat}
theorem d_d1 (ha : DE X a fa) (hb : DE X b fb) : DE X (.Dict [some a] [b] pos) (Dm.eD1 fa fb) := PE.weak (pe_disp (pps_cons ha hb pps_nil) rfl rfl (by simp) (by simp)) fun _ _ _ => r_d1
theorem d_dx (hr : Room k X.A) (ha : DE X a fa) (hb : DE X b fb) (hs : NoSl b := by intro _ _; rfl) : DE X (.Subscript a b pos) (Dm.e2 Dm.gDx fa fb) := PE.weak (pe_dget (u1 hr) ha hb hs) fun _ _ _ => r_e2 od_dx
theorem t_din (hr : Room k X.A) (ha : DE X a fa) (hb : DE X b fb) (hm : behindInMarks .In b = false := by rfl) : DT X (.Compare a [.In] [b] pos) (Dm.tV (Dm.e2 Dm.gDin fa fb)) := PT.weak (pt_cmp (pc_din (u1 hr) ha hb) hm) fun σ H Q h => r_e2 od_din (r_test h)
theorem t_dnin (hr : Room k X.A) (ha : DE X a fa) (hb : DE X b fb) (hm : behindInMarks .NotIn b = false := by rfl) : DT X (.Compare a [.NotIn] [b] pos) (Dm.tV (Dm.e2 Dm.gDnin fa fb)) := PT.weak (pt_cmp (pc_dnotin (u1 hr) ha hb) hm) fun σ H Q h => r_e2 od_dnin (r_test h)
theorem s_dput (i : Nat) {x : Str} {px sp : Pos} (hr : Room k X.A) (hb : DE X b fb) (he : DE X e f) (hi : X.N[i]? = some x := by rfl) (hv : Vis X.env.scope x := by first | exact Or.inl rfl | exact Or.inr (Or.inl rfl) | exact Or.inr (Or.inr rfl)) (hd : (x == ("__debug__" : Str)) = false := by decide)
  (hcd : (x == ("__classdict__" : Str)) = false := by decide) (hs : swapsWith e (some (.Subscript (.Name x px) b sp)) pos.line X.env = pure false := by rfl) : DS X (.Assign [.Subscript (.Name x px) b sp] e pos) (Dm.sDput i fb f) :=
 PS.weak (ps_dput (u1 hr) (pe_var hi hv hd hcd) hb he hs) fun _ _ _ => r_dput
end
end Br
namespace Dm
def gAbs : List Dat → Option RV
 | [.int i] => vI (if i < 0 then -i else i)
 | _ => none
def ePop (i : Nat) : FE := fun ρ => match ρ[i]? with
 | some (.ow (.lst ds)) => (match ds[ds.length - 1]? with
  | some d => some (.val d,ρ.set i (.ow (.lst (ds.take (ds.length - 1)))))
  | none => none)
 | _ => none
end Dm
namespace Br
open PySem PySem.Spec PyProof.Rows L2
theorem cd_abs : CallD (fun xs H Q => ∃ i,xs = [.int i] ∧ Q (.int (if i < 0 then -i else i)) H) Dm.gAbs := by
 intro H0 H xs ds z Q s rx e k
 unfold Dm.gAbs at e
 split at e
 ·rename_i i
  cases e
  cases rx with
  | cons r rr =>
   cases rr
   cases repO_int r
   exact ⟨i,rfl,k _ H0 H (Grow.refl s) (.int _)⟩
 ·cases e
theorem dropLast_take {α : Type} (l : List α) : l.dropLast = l.take (l.length - 1) := List.dropLast_eq_take
section
variable {σ : L2.St} {H : Hp} {Q : VK}
theorem r_pop {K : PySem.W.Frag} {i : Nat} (h : tD (Dm.ePop i) σ H Q) : tBM0 K "list" rPop (tVar i) σ H Q := by
 obtain ⟨H0,ρ,x,ρ',st,e,k⟩ := h
 unfold Dm.ePop at e
 split at e
 case h_2 => cases e
 rename_i ds h0
 split at e
 case h_2 => cases e
 rename_i d hd
 cases e
 obtain ⟨a,q,n,xs,y,rs⟩ := st.ow i _ h0
 refine ⟨_,q,.inl ⟨rfl,xs,.inl (.inl y)⟩,?_⟩
 have hl := rs.length
 obtain ⟨v,hv,rv⟩ := rs.get hd
 rw [← hl] at hv
 refine ⟨a,xs,v,rfl,rfl,y,hv,?_⟩
 rw [dropLast_take,hl]
 have ow : Owned σ ρ a := ⟨i,_,h0,q⟩
 have hi : i < ρ.length := (List.getElem?_eq_some_iff.mp h0).1
 refine k v H0 _ ⟨st.write h0 q ⟨_,upd_same,rs.take _⟩,Stp.write ow,fun b z => owned_write h0 z,fun j z => trivial⟩ rv
theorem r_tr {K : PySem.W.Frag} {f : Dm.FE} {Q : Bool → Hp → Prop} (h : tDT (Dm.tTr f) σ H Q) : tD f σ H fun x H' => ∃ k,TruV K x H' k ∧ Q k H' := by
 obtain ⟨H0,ρ,b,ρ',st,e,k⟩ := h
 unfold Dm.tTr at e
 split at e
 ·cases e
 rename_i x ρ1 e1
 split at e
 ·cases e
 rename_i d p1
 split at e
 ·cases e
 rename_i c tc
 cases e
 refine ⟨H0,ρ,x,_,st,e1,fun v H1 Hb t1 r1 => ⟨b,?_,k H1 Hb t1⟩⟩
 have rl := r1.look t1.st p1
 cases d with
 | non =>
  cases tc
  rcases rl with r | ⟨a,_,w⟩
  ·cases r; rfl
  ·exact False.elim w
 | bl c =>
  cases tc
  cases repO_bl rl
  rfl
 | int i =>
  cases tc
  cases repO_int rl
  rfl
 | tup es =>
  cases tc
  obtain ⟨a,xs,rfl,qa,rs⟩ := repO_tup t1.st.same rl
  refine .inr (.inl ⟨xs,SqT.of qa,?_⟩)
  cases rs <;> rfl
 | lst es =>
  cases tc
  obtain ⟨a,xs,rfl,qa,rs⟩ := repO_lst t1.st.same rl
  refine .inl ⟨xs,.inl qa,?_⟩
  cases rs <;> rfl
 | str _ => cases tc
 | dct _ _ => cases tc
 | exc _ => cases tc
 | fn _ => cases tc
end
section
variable {X : Cx} {a : Expr} {fa : Dm.FE} {p pos : Pos}
theorem t_tr (ha : DE X a fa) (he : ∀ whole,isTrue a X.env whole = (do let v ← whole; standAt a.pos; holding [v] (truthy v)) := by intro _; rfl) : DT X a (Dm.tTr fa) := PT.weak (pt_truth ha he) fun _ _ _ => r_tr
theorem d_pop (i : Nat) {x : Str} {px ap cp : Pos} (hi : X.N[i]? = some x := by rfl) (hv : Vis X.env.scope x := by first | exact Or.inl rfl | exact Or.inr (Or.inl rfl) | exact Or.inr (Or.inr rfl)) (hd : (x == ("__debug__" : Str)) = false := by decide)
  (hcd : (x == ("__classdict__" : Str)) = false := by decide) (hbase : attributeBase (.Name x px) "pop" X.env (eval (.Name x px) X.env) = eval (.Name x px) X.env := by rfl) (hline : (ap.endLine == cp.line) = true := by rfl) :
  DE X (.Call (.Attribute (.Name x px) "pop" ap) [] [] cp) (Dm.ePop i) :=
 PE.weak (pe_bm0 PySem.F.plainAttrs_list PySem.F.slot_list_pop PySem.F.type_list_pop mt_pop (pe_var hi hv hd hcd) hbase hline) fun _ _ _ => r_pop
end
section
variable {X : Cx} {a b e : Expr} {fa fb f : Dm.FE} {fs : List Dm.FE} {p p2 pos : Pos}
theorem d_abs (hg : Gl X "abs") (hm : X.mg "abs" = none) (ha : DA X [e] fs) (he : starEach [e] X.env = [(false, eval e X.env)] := by rfl) (hpl : (backTo pos (starEach [] X.env)).any (·.1) = false := by rfl) : DE X (.Call (.Name "abs" p) [e] [] pos) (Dm.eB Dm.gAbs fs) := d_bf call_abs cd_abs PyProof.Rows.boot_abs hg hm ha (he := he) (hpl := hpl)
end
end Br
namespace Dm
def intsD : List Dat → Option (List Int)
 | [] => some []
 | .int i :: r => (intsD r).map fun ns => i :: ns
 | _ => none
end Dm
namespace Br
open PySem PySem.Spec PyProof.Rows L2
section
variable {X : Cx}
end
section
variable {X : Cx} {e : Expr} {f : Dm.FE} {p p0 pos pos0 : Pos}
end
end Br
namespace Ts
open PySem PyProof.Rows
variable {M : Model} {A : Around} {E : Value → Shared → Prop} {s : Shared} {κ : KeyKind} {kd : SortKind} {a₀ : Array Keyed}
end Ts
namespace Ts
open PySem PyProof.Rows
variable {M : Model} {A : Around} {E : Value → Shared → Prop} {s : Shared} {κ : KeyKind} {kd : SortKind} {a₀ : Array Keyed}
section
variable {prog : Program} {w : World}
end
end Ts
namespace Ts
open PySem PyProof.Rows
variable {M : Model} {A : Around} {E : Value → Shared → Prop} {s : Shared} {κ : KeyKind} {kd : SortKind} {a₀ : Array Keyed}
end Ts
namespace Ts
open PySem PyProof.Rows
variable {M : Model} {A : Around} {E : Value → Shared → Prop} {s : Shared} {κ : KeyKind} {kd : SortKind} {a₀ : Array Keyed}
end Ts
namespace Ts
open PySem PyProof.Rows
variable {A : Around} {E : Value → Shared → Prop} {s : Shared} {κ : KeyKind} {kd : SortKind} {a₀ : Array Keyed} {prog : Program} {w : World}
section
variable {a b : Array Keyed}
end
end Ts
namespace Ts
open PySem PyProof.Rows
variable {A : Around} {E : Value → Shared → Prop} {s : Shared} {κ : KeyKind} {kd : SortKind} {a₀ : Array Keyed} {prog : Program} {w : World}
section
variable {a b : Array Keyed}
end
end Ts
namespace Ts
open PySem PyProof.Rows
variable {A : Around} {E : Value → Shared → Prop} {s : Shared} {κ : KeyKind} {kd : SortKind} {a₀ : Array Keyed} {prog : Program} {w : World}
end Ts
namespace Ts
open PySem PyProof.Rows
variable {A : Around} {E : Value → Shared → Prop} {s : Shared} {κ : KeyKind} {kd : SortKind} {a₀ : Array Keyed} {prog : Program} {w : World}
end Ts
namespace Ts
open PySem PyProof.Rows
variable {A : Around} {E : Value → Shared → Prop} {s : Shared} {κ : KeyKind} {kd : SortKind} {prog : Program} {w : World}
end Ts
namespace Ts
open PySem PyProof.Rows
variable {A : Around} {E : Value → Shared → Prop} {s : Shared} {κ : KeyKind} {kd : SortKind} {a₀ : Array Keyed} {prog : Program} {w : World}
end Ts
namespace Ts
open PySem PyProof.Rows
variable {A : Around} {E : Value → Shared → Prop} {s : Shared} {κ : KeyKind} {kd : SortKind} {prog : Program} {w : World}
end Ts
namespace Tk
open PySem PySem.W PyProof.Rows
section
variable {cmp : Nat → Nat → (Bool → Shared → Prop) → Shared → Prop} {s : Shared} {lt : Nat → Nat → Bool} {n pos : Nat}
end
section
variable {A : Around} {E : Value → Shared → Prop} {s : Shared} {kd : SortKind} {prog : Program} {w : World} {lt : Nat → Nat → Bool} {pos : Nat} {vs : List Value} {v : Value}
end
end Tk
namespace Dm
end Dm
namespace Br
open PySem PySem.Spec PyProof.Rows L2
section
variable {prog : Program} {w : World} {A : Around} {E : Value → Shared → Prop} {s : Shared}
end
section
variable {X : Cx}
end
end Br
namespace Dm
def ePopAt (i : Nat) (e : FE) : FE := fun ρ => match ρ[i]? with
 | some (.ow (.lst _)) => (match e ρ with
  | some (.val (.int j),ρ1) => (match ρ1[i]? with
   | some (.ow (.lst ds)) => if 0 ≤ j ∧ j ≤ BIG then (match ds[j.toNat]? with
     | some d => some (.val d,ρ1.set i (.ow (.lst (ds.eraseIdx j.toNat))))
     | none => none) else none
   | _ => none)
  | _ => none)
 | _ => none
def isN : Dat → Bool
 | .non => true
 | _ => false
def gIsN : Dat → Dat → Option RV
 | d,.non => vB (isN d)
 | _,_ => none
def gIsnN : Dat → Dat → Option RV
 | d,.non => vB (!isN d)
 | _,_ => none
end Dm
namespace Br
open PySem PySem.Spec PyProof.Rows L2
section
variable {X : Cx}
end
section
variable {X : Cx} {a b c e : Expr} {f fa fb : Dm.FE} {fs : List Dm.FE} {p pos : Pos}
def rIsN (neg : Bool) : R2 := fun x y H Q => y = .non ∧ Q (.bl (if neg then !decide (x = V.non) else decide (x = V.non))) H
theorem rel_non {x : V} {v : Value} (r : RelV x v) : (v == Value.none) = decide (x = V.non) := by
 cases x with
 | non => cases r; rfl
 | bl b => cases r; rfl
 | int i => obtain ⟨t,rfl⟩ := r; rfl
 | str z => obtain ⟨t,rfl⟩ := r; rfl
 | byt z => obtain ⟨t,rfl⟩ := r; rfl
 | flt z => obtain ⟨t,rfl⟩ := r; rfl
 | ref z => cases r; rfl
 | ty z => cases r; rfl
theorem rep_non {H0 H : Hp} {x : V} {d : Dm.Dat} (r : RepO H0 H x d) : decide (x = V.non) = Dm.isN d := by
 rcases r with r | ⟨a,rfl,w⟩
 ·cases r <;> rfl
 ·cases d with
  | non => exact False.elim w
  | _ => rfl
end
section
variable {X : Cx}
end
section
variable {σ : L2.St} {H : Hp} {Q : VK} {D : Ends}
theorem erase_take {α : Type} (l : List α) (i : Nat) : l.eraseIdx i = l.take i ++ l.drop (i + 1) := List.eraseIdx_eq_take_drop_succ l i
theorem reps_erase {H0 : Hp} {vs : List V} {ds : List Dm.Dat} (i : Nat) (r : Reps H0 vs ds) : Reps H0 (vs.eraseIdx i) (ds.eraseIdx i) := by
 rw [erase_take,erase_take]
 exact (r.take i).append (r.drop (i + 1))
theorem r_popAt {K : PySem.W.Frag} {i : Nat} {f : Dm.FE} (h : tD (Dm.ePopAt i f) σ H Q) : tBM K "list" rPopAt (tVar i) (tDA [f]) σ H Q := by
 obtain ⟨H0,ρ,x,ρ',st,e,k⟩ := h
 unfold Dm.ePopAt at e
 split at e
 case h_2 => cases e
 rename_i ds0 h0
 obtain ⟨a0,q0,n0,w0⟩ := st.ow i _ h0
 refine ⟨_,q0,?_⟩
 obtain ⟨xs0,y0,_⟩ := w0
 refine ⟨.inl ⟨rfl,xs0,.inl (.inl y0)⟩,?_⟩
 split at e
 case h_2 => cases e
 rename_i j ρ1 e1
 split at e
 case h_2 => cases e
 rename_i ds h2
 split at e
 case isFalse => cases e
 rename_i hb
 split at e
 case h_2 => cases e
 rename_i d hd
 cases e
 refine ⟨H0,ρ,[.val (.int j)],ρ1,st,by unfold Dm.eAs; rw [e1]; rfl,fun vs H0' H' t r => ?_⟩
 cases r with
 | cons r rr =>
  cases rr
  cases Rep.isInt r
  obtain ⟨a,q,n,w⟩ := t.st.ow i _ h2
  rw [q0] at q
  cases q
  obtain ⟨xs,y,rs⟩ := w
  obtain ⟨v,hv,rv⟩ := rs.get hd
  have hlt : j.toNat < xs.length := (List.getElem?_eq_some_iff.mp hv).1
  have hB : Dm.BIG = 1000000000 := rfl
  refine ⟨a0,xs,j,j.toNat,v,rfl,rfl,y,by omega,by omega,?_,hv,?_⟩
  ·unfold seqIndex?
   simp only [show ¬ j < 0 by omega,if_false]
   rw [if_pos (by rw [decide_eq_true (show 0 ≤ j by omega),decide_eq_true (show j < (xs.length : Int) by omega)]; rfl)]
  have ow : Owned σ ρ1 a0 := ⟨i,_,h2,q0⟩
  have hi : i < ρ1.length := (List.getElem?_eq_some_iff.mp h2).1
  refine k v H0' _ (t.trans ⟨t.st.write h2 q0 ⟨_,upd_same,reps_erase _ rs⟩,Stp.write ow,fun b z => owned_write h2 z,fun j' z => trivial⟩) rv
end
section
variable {X : Cx} {e : Expr} {f : Dm.FE} {pos : Pos}
theorem d_popAt (i : Nat) {x : Str} {px ap cp : Pos} (he : DE X e f) (hi : X.N[i]? = some x := by rfl) (hv : Vis X.env.scope x := by first | exact Or.inl rfl | exact Or.inr (Or.inl rfl) | exact Or.inr (Or.inr rfl)) (hd : (x == ("__debug__" : Str)) = false := by decide)
  (hcd : (x == ("__classdict__" : Str)) = false := by decide) (hbase : attributeBase (.Name x px) "pop" X.env (eval (.Name x px) X.env) = eval (.Name x px) X.env := by rfl)
  (hfew : ((backTo cp (starEach [e] X.env)).all (fun x => !x.1) && (backToKw cp (keywordEach [] X.env)).all (fun x => x.1.isSome)
   && decide ([e].length + ([] : List Keyword).length + (if ([] : List Keyword).isEmpty then 0 else 1) < 30)) = true := by rfl)
  (hline : (ap.endLine == cp.line) = true := by rfl) (hs : starEach [e] X.env = (false,eval e X.env) :: starEach [] X.env := by rfl) (hplain : (backTo cp (starEach [] X.env)).any (·.1) = false := by rfl) :
  DE X (.Call (.Attribute (.Name x px) "pop" ap) [e] [] cp) (Dm.ePopAt i f) :=
 PE.weak (pe_bm PySem.F.plainAttrs_list PySem.F.slot_list_pop PySem.F.type_list_pop mt_popAt (pe_var hi hv hd hcd) (a_cons he a_nil hs) hbase hfew hline hs hplain) fun _ _ _ => r_popAt
end
end Br
namespace L2
open PySem PySem.Spec PyProof.Rows
section
variable {X : Cx} {pins : List (Addr × Obj)} {σ : St} {H : Hp} {s : Shared} {x : Str} {C : Addr} {bmB : List Value} {B newId initId : String} {np cpos pos : Pos}
end
section
variable {P : Program} {w : World} {K : PySem.W.Frag} {mg : Str → Option Value} {base : Heap} {N : List Str} {qual : Str} {scope : Scope} {f : Addr} {cd : Value} {A : Around} {outer : List Env} {s₀ : Shared} {H₀ : Hp} {E : XK} {C : Addr}
 {pins : List (Addr × Obj)} {σ : St} {H : Hp} {s : Shared}
end
section
variable {X : Cx} {st : Stmt} {rest : List Stmt} {t : TS}
end
end L2
namespace Br
open PySem PySem.Spec PyProof.Rows L2
section
variable {X : Cx} {C : Addr} {E : L2.St → XK} {k : Nat} {F : Addr} {fd : FuncData} {ps : List Str} {x : Str} {p pos : Pos} {e : Expr} {es : List Expr} {fs : List Dm.FE} {bad : List Dm.Dat → Bool} {R S : Dm.Env → Option Dm.Env}
end
section
variable {P : Program} {w : World} {K : PySem.W.Frag} {mg : Str → Option Value} {base : Heap} {N : List Str} {qual : Str} {scope : Scope} {f : Addr} {cd : Value} {A : Around} {outer : List Env} {s₀ : Shared} {H₀ : Hp} {E : XK} {C : Addr}
end
end Br
namespace PySem.W
open PySem PySem.Spec PySem.Calls PyProof.Rows
section
variable {prog : Program} {w : World} {A : Around} {K : Frag} {x C : Addr} {s : Shared} {R : Result → Shared → Prop}
end
section
variable {prog : Program} {w : World} {A : Around} {E : Value → Shared → Prop} {K : Frag} {x C : Addr} {ox : Obj} {h : Heap} {g : Array GenState} {d : Drawn} {t : Nat} {os : OsState}
end
end PySem.W
namespace PySem
section
variable {M : Model} {A : Around} {E : Value → Shared → Prop} {s : Shared} {env : Env}
end
end PySem
namespace PySem.W
open PySem PySem.Spec PySem.Calls PyProof.Rows
end PySem.W
namespace L2
open PySem PySem.Spec PyProof.Rows
section
variable {X : Cx} {pins : List (Addr × Obj)} {σ : L2.St} {H : Hp} {s : Shared}
end
end L2
namespace Br
open PySem PySem.Spec PyProof.Rows L2
section
variable {X : Cx} {pins pn : List (Addr × Obj)} {σ : L2.St} {H : Hp} {s : Shared} {xe : Value → Shared → Prop}
end
section
variable {X : Cx} {C : Addr} {e : Expr} {f : Dm.FE} {p p2 pos : Pos} {b : Bool}
end
section
variable {X : Cx} {C : Addr} {e : Expr} {es : List Expr} {f : Dm.FE} {p p2 pos : Pos} {b : Bool} {Ds : List Addr}
end
section
variable {X : Cx} {a b c e : Expr} {f fa fb fc : Dm.FE} {p p2 pos : Pos} {es : List Expr} {fs : List Dm.FE}
theorem op_isnN : OpR X (compareOp .IsNot) (rIsN true) := by
 intro pins s σ H x y v u Q I rx ry h
 obtain ⟨rfl,q⟩ := h
 cases ry
 refine isnot_none_gen ?_
 rw [rel_non rx]
 exact ⟨.bl _,H,I,rfl,q⟩
theorem od_isnN : OpD (rIsN true) Dm.gIsnN := by
 intro H0 H x y dx dy z Q s rx ry e k
 unfold Dm.gIsnN at e
 split at e
 ·cases e
  have hy := rep_non ry
  have : y = V.non := of_decide_eq_true (hy.trans rfl)
  refine ⟨this,?_⟩
  rw [if_pos rfl,rep_non rx]
  exact k _ H0 H (Grow.refl s) (.bl _)
 ·cases e
theorem t_isnN (ha : DE X a fa) (hb : DE X b fb) : DT X (.Compare a [.IsNot] [b] pos) (Dm.tV (Dm.e2 Dm.gIsnN fa fb)) := t_cmp op_isnN od_isnN ha hb (nomark _)
end
end Br
namespace Dm
def sumI : List Int → Int
 | [] => 0
 | x :: r => x + sumI r
def gSumL : List Dat → Option RV
 | [.lst xs] => (match intsD xs with
  | some ns => vI (sumI ns)
  | none => none)
 | _ => none
end Dm
namespace Br
open PySem PySem.Spec PyProof.Rows L2
theorem sumI_app (a b : List Int) : Dm.sumI (a ++ b) = Dm.sumI a + Dm.sumI b := by
 induction a with
 | nil => rw [Dm.sumI,List.nil_append,Int.zero_add]
 | cons x a ih => rw [List.cons_append,Dm.sumI,Dm.sumI,ih,Int.add_assoc]
theorem preSum_take (ns : List Int) : ∀ k,k ≤ ns.length → preSum (fun i => ns.getD i 0) k = Dm.sumI (ns.take k)
 | 0,_ => rfl
 | k + 1,h => by
  have e : preSum (fun i => ns.getD i 0) (k + 1) = preSum (fun i => ns.getD i 0) k + ns.getD k 0 := rfl
  rw [e,preSum_take ns k (by omega),List.take_succ_eq_append_getElem (by omega),sumI_app]
  rw [List.getD_eq_getElem?_getD,List.getElem?_eq_getElem (by omega)]
  simp [Dm.sumI]
section
variable {X : Cx}
theorem ints_at {ns : List Int} {its : List Value} (rv : Vals (ns.map V.int) its) : ∀ (i : Nat) (v : Value),its.toArray[i]? = some v → ∃ t,v = .int (ns.getD i 0) t := by
 intro i v hv
 have hv' : its[i]? = some v := by simpa using hv
 have hlen := rv.length
 rw [List.length_map] at hlen
 have hi : i < ns.length := by rw [hlen]; exact (List.getElem?_eq_some_iff.mp hv').1
 have hb : (ns.map V.int)[i]? = some (V.int ns[i]) := by rw [List.getElem?_map,List.getElem?_eq_getElem hi]; rfl
 obtain ⟨u,hu,ru⟩ := rv.get hb
 rw [hv'] at hu
 cases hu
 obtain ⟨t,rfl⟩ := ru
 exact ⟨t,by rw [List.getD_eq_getElem?_getD,List.getElem?_eq_getElem hi]; rfl⟩
theorem call_sumL (hc : X.calm = true) : CallR X (.builtin "sum") (fun xs H Q => ∃ (a : Addr) (ns : List Int), xs = [.ref a] ∧ Rd H a (.lst (ns.map V.int)) ∧ Q (.int (Dm.sumI ns)) H) := by
 intro pins s σ H xs us Q I r h
 obtain ⟨a,ns,rfl,hq,q⟩ := h
 obtain ⟨u,rfl,rx⟩ := vals1 r
 cases rx
 obtain ⟨z,its,n,rv,e⟩ := hq.ok I.hok
 have hl : s.heap.IsList a its.toArray := ⟨_,e,rfl,_,rfl⟩
 have hlen := rv.length
 rw [List.length_map] at hlen
 have hax : a ≠ s.heap.objs.size := Nat.ne_of_lt (Heap.lt_size e)
 refine PySem.call_sum_walkG (wpAny_pyIter_list hl ⟨s.heap.objs.size,_,_,_,_,_,fun i => ns.getD i 0,rfl,Walks.list (A := X.A.in1) (I.ok.hd hc) s.heap.objs.size a hax its.toArray,⟨⟨_,Heap.get?_push_size _ rfl,rfl,rfl⟩,hl.push _⟩,?_,ints_at rv,fun h' tk t' hk => ?_⟩)
 ·intro b hb
  simp only [List.mem_cons,List.not_mem_nil,or_false] at hb
  rcases hb with rfl | rfl
  ·show s.heap.objs.size < _; exact Heap.size_push .. ▸ Nat.lt_succ_self _
  ·show b < _; exact Heap.size_push .. ▸ Nat.lt_succ_of_lt (Heap.lt_size e)
 ·have e1 : its.toArray.size = ns.length := by rw [List.size_toArray,hlen]
  refine ⟨.int (Dm.sumI ns),H,I.kept (t' := tk) fun b o eb => hk b o ?_ (Heap.get?_push_of_some _ eb),⟨t',?_⟩,q⟩
  ·intro hm
   have : b = s.heap.objs.size := by simpa using hm
   exact absurd (Heap.lt_size eb) (by rw [this]; exact Nat.lt_irrefl _)
  ·rw [e1,preSum_take ns _ (Nat.le_refl _),List.take_length]
theorem reps_intsD : ∀ {H0 : Hp} {us : List V} {ds : List Dm.Dat} {ns : List Int},Reps H0 us ds → Dm.intsD ds = some ns → us = ns.map V.int
 | _,_,_,_,.nil,h => by cases h; rfl
 | _,_,_,_,.cons (ds := ds) (d := d) r rr,h => by
  cases d with
  | int i =>
   rw [Dm.intsD] at h
   cases hn : Dm.intsD ds with
   | none => rw [hn] at h; cases h
   | some ms =>
    rw [hn] at h
    cases h
    have := Rep.isInt r
    subst this
    rw [reps_intsD rr hn]
    rfl
  | _ => cases h
theorem cd_sumL : CallD (fun xs H Q => ∃ (a : Addr) (ns : List Int),xs = [.ref a] ∧ Rd H a (.lst (ns.map V.int)) ∧ Q (.int (Dm.sumI ns)) H) Dm.gSumL := by
 intro H0 H vs ds z Q s rs e k
 unfold Dm.gSumL at e
 split at e
 ·split at e
  ·rename_i ns hb
   cases e
   cases rs with
   | cons r rr =>
    cases rr
    obtain ⟨a,us,rfl,qa,ra⟩ := repO_lst s r
    have := reps_intsD ra hb
    subst this
    exact ⟨a,ns,rfl,qa,k _ H0 H (Grow.refl s) (.int _)⟩
  ·cases e
 ·cases e
end
section
variable {X : Cx} {e : Expr} {fs : List Dm.FE} {p pos : Pos}
theorem d_sumL (hc : X.calm = true) (hg : Gl X "sum") (hm : X.mg "sum" = none) (ha : DA X [e] fs) (he : starEach [e] X.env = [(false, eval e X.env)] := by rfl) (hpl : (backTo pos (starEach [] X.env)).any (·.1) = false := by rfl) : DE X (.Call (.Name "sum" p) [e] [] pos) (Dm.eB Dm.gSumL fs) := d_bf (call_sumL hc) cd_sumL PyProof.Rows.boot_sum hg hm ha (he := he) (hpl := hpl)
end
section
variable {X : Cx}
end
section
variable {σ : L2.St} {H : Hp} {Q : VK}
end
section
variable {X : Cx} {a e : Expr} {fa f : Dm.FE}
end
section
variable {P : Program} {w : World} {K : PySem.W.Frag} {mg : Str → Option Value} {base : Heap}
end
theorem tnr {prog : Program} {w : World} {A : Around} {s : Shared} {r : Addr} {a b c : Int} {t u v : Tok} {Q : PySem.Fin → Shared → Prop} {E : Value → Shared → Prop} (hr : IsRange s.heap r a b c t u v) (k : wpAny (model prog w) A (do
       let l ← collect (Value.ref r)
       let xs ← pure l.toArray
       let x ← Builtin.Tuple.tupleExact xs
       PySem.ret x) Q E s) :
  wpAny (model prog w) A (Builtin.«tuple.__new__» { pos := [.type "tuple", .ref r] }) Q E s := by
 unfold Builtin.«tuple.__new__»
 dsimp only
 refine wpAny_bind (wpAny_of_eq (a := true) rfl ?_)
 rw [if_neg (by decide)]
 refine wpAny_bind (wpAny_of_eq (a := true) (by first | exact F.called_tuple.sub | rfl) ?_)
 rw [if_neg (by decide)]
 rw [if_neg (by first | decide | (rw [show ((Manifest.find? "tuple").elim false fun x => x.noNew) = false from by first | rfl | decide +kernel]; decide))]
 refine wpAny_bind (wpAny_of_eq madeHere_tuple ?_)
 refine wpAny_bind (wpAny_of_eq F.called_tuple.init.lookup ?_)
 rw [if_pos (by decide)]
 refine wpAny_bind (wpAny_of_eq (a := ()) rfl ?_)
 refine wpAny_bind (wpAny_of_eq (a := ()) rfl ?_)
 rw [if_pos (by decide)]
 refine wpAny_bind ?_
 unfold Builtin.Tuple.tupleIsExact
 refine wpAny_bind (wpAny_typeOf ⟨_,hr,rfl⟩ (wpAny_pure ?_))
 rw [if_neg (by decide)]
 exact k
theorem colc {prog : Program} {w : World} {A : Around} {s : Shared} {r : Addr} {a b c : Int} {t u v : Tok} {n : Nat} {R : Result → Shared → Prop} (hA : A.handled = none) (hr : IsRange s.heap r a b c t u v) (hsm : Builtin.Range.small a b c = true) (hn : Builtin.Range.rangeSize a b c = n) (hz : n ≤ 2 ^ 24)
  (k : ∀ (h' : Heap) (tk : Nat) (acc' : Array Value) (c' : Nat), (∀ (b : Addr) (o : Obj), s.heap.get? b = some o → h'.get? b = some o) → h'.get? s.heap.objs.size = some { cls := .type "list", data := .seq acc' c' } → ItemsOf (fun i v => ∃ t, v = Value.int (a + ↑i * c) t) acc' n → R (.ok (.ret (.ref s.heap.objs.size))) { heap := h', gens := s.gens, drawn := s.drawn, toks := tk, os := s.os }) :
  codeAny (model prog w) A (Code.builtin "proto.collect" { pos := [.ref r] }) R s := by
 refine codeAny_builtin F.entry_proto_collect ?_
 unfold Builtin.«proto.collect»
 dsimp only
 refine wpAny_bind (wpAny_newList ?_)
 refine wpAny_pure ⟨plainId_quiet F.plain_list_iadd _,codeAny_builtin F.entry_list_iadd ?_⟩
 unfold Builtin.«list.__iadd__»
 refine wpAny_bind (wpAny_of_eq (a := (Value.ref s.heap.objs.size,[Value.ref r])) rfl ?_)
 dsimp only
 rw [Around.under_plainId F.plain_list_iadd]
 exact wpAny_extend_range (R := R) (s := { heap := s.heap.push { cls := .type "list", data := .seq #[] }, gens := s.gens, drawn := s.drawn, toks := s.toks, os := s.os }) hA (Heap.get?_push_of_some _ hr) hsm hn hz s.heap.objs.size _ 0 (Heap.get?_push_size _ rfl) (fun h' tk acc' c' hk hS hI => k h' tk acc' c' (fun b o e => hk b o (Nat.ne_of_lt (Heap.lt_size e)) (Heap.get?_push_of_some _ e)) hS hI)
theorem colr {prog : Program} {w : World} {A : Around} {s : Shared} {r : Addr} {a b c : Int} {t u v : Tok} {n : Nat} {Q : List Value → Shared → Prop} {E : Value → Shared → Prop} (hA : A.handled = none) (hr : IsRange s.heap r a b c t u v) (hsm : Builtin.Range.small a b c = true) (hn : Builtin.Range.rangeSize a b c = n) (hz : n ≤ 2 ^ 24)
  (k : ∀ (h' : Heap) (tk : Nat) (acc' : Array Value),(∀ (b : Addr) (o : Obj),s.heap.get? b = some o → h'.get? b = some o) → ItemsOf (fun i v => ∃ t,v = Value.int (a + ↑i * c) t) acc' n → Q acc'.toList { heap := h',gens := s.gens,drawn := s.drawn,toks := tk,os := s.os }) :
  wpAny (model prog w) A (collect (.ref r)) Q E s := by
 unfold collect
 refine wpAny_bind (wpAny_runValue (colc hA hr hsm hn hz fun h' tk acc' c' hk hS hI => ?_))
 dsimp only
 refine wpAny_bind (wpAny_load hS (wpAny_pure ?_))
 exact k h' tk acc' hk hI
theorem call_tuple_range {prog : Program} {w : World} {A : Around} {E : Value → Shared → Prop} {s : Shared} {Q : Value → Shared → Prop} {r : Addr} {a b c : Int} {t u v : Tok} {n : Nat} (hA : A.handled = none) (hr : IsRange s.heap r a b c t u v) (hsm : Builtin.Range.small a b c = true) (hn : Builtin.Range.rangeSize a b c = n) (hz : n ≤ 2 ^ 24) (hz2 : n ≤ sizeLine)
  (k : ∀ (h' : Heap) (tk : Nat) (acc : Array Value), (∀ (b : Addr) (o : Obj), s.heap.get? b = some o → h'.get? b = some o) → ItemsOf (fun i v => ∃ t, v = Value.int (a + ↑i * c) t) acc n → Q (.ref h'.objs.size) { heap := h'.push { cls := .type "tuple", data := .seq acc }, gens := s.gens, drawn := s.drawn, toks := tk, os := s.os }) :
  wpAny (model prog w) A (call (.type "tuple") [.ref r]) Q E s := by
 refine callType_new (S := fun A R s => A.handled = none ∧ IsRange s.heap r a b c t u v ∧ ∀ (h' : Heap) (tk : Nat) (acc : Array Value), (∀ (b : Addr) (o : Obj), s.heap.get? b = some o → h'.get? b = some o) → ItemsOf (fun i v => ∃ t, v = Value.int (a + ↑i * c) t) acc n → R (.ok (.ret (.ref h'.objs.size))) { heap := h'.push { cls := .type "tuple", data := .seq acc }, gens := s.gens, drawn := s.drawn, toks := tk, os := s.os }) F.called_tuple (by decide) (F.typeCall_tuple_1 _) (F.newCall_tuple_1 _) (fun obj => by first | exact F.args_object_init_2 _ _ | rfl | decide) F.entry_tuple_new ?_ ⟨hA, hr, fun h' tk acc h1 h2 => ⟨?_, k h' tk acc h1 h2⟩⟩
 ·intro prog w A R s ⟨hA,hr,k⟩
  refine tnr hr (wpAny_bind (colr hA hr hsm hn hz fun h' tk acc h1 h2 => ?_))
  refine wpAny_bind (wpAny_pure ?_)
  unfold Builtin.Tuple.tupleExact
  refine wpAny_bind (wpAny_newObj_type (wpAny_pure ?_) ?_)
  ·exact k h' tk acc h1 (by simpa using h2)
  ·show acc.toList.toArray.size ≤ sizeLine
   have := h2.1
   simp at this ⊢
   omega
 ·exact ⟨_,Heap.get?_push_size _ rfl,rfl⟩
section
variable {X : Cx} {l a : Expr} {tl : TE} {ta : TA} {fa : Dm.FE} {p pos p0 pos0 : Pos}
end
section
variable {σ : L2.St} {H : Hp} {Q : VK}
end
section
variable {X : Cx} {e : Expr} {es : List Expr} {fs : List Dm.FE} {p pos : Pos}
end
end Br
namespace Dm
abbrev FN := Env → List (List Dat) → Option (Env × List (List Dat))
def nNx : FN := fun ρ r => some (ρ,r)
def nSeq (s u : FN) : FN := fun ρ r => match s ρ r with
 | none => none
 | some (ρ1,r1) => u ρ1 r1
def nIf (t : FT) (a b : FN) : FN := fun ρ r => match t ρ with
 | none => none
 | some (true,ρ1) => a ρ1 r
 | some (false,ρ1) => b ρ1 r
def nApp (i e : FE) : FN := fun ρ r => match i ρ with
 | some (.val (.int k),ρ1) => (match ixN r.length k with
  | none => none
  | some m => match r[m]? with
   | none => none
   | some row => match e ρ1 with
    | none => none
    | some (x,ρ2) => match tk ρ2 x with
     | none => none
     | some (d,ρ3) => if row.length < SZ then some (ρ3,r.set m (row ++ [d])) else none)
 | _ => none
def nForD (bd : FB) (body : FN) : List Dat → FN
 | [],ρ,r => some (ρ,r)
 | d :: q,ρ,r => match bd d ρ with
  | none => none
  | some ρ1 => match body ρ1 r with
   | none => none
   | some (ρ2,r2) => nForD bd body q ρ2 r2
def nFor (it : FI) (bd : FB) (body : FN) : FN := fun ρ r => match it ρ with
 | none => none
 | some (ds,ρ1) => nForD bd body ds ρ1 r
def nMk (bd : FB) : List Dat → Env → Option Env
 | [],ρ => some ρ
 | d :: r,ρ => match bd d ρ with
  | none => none
  | some ρ1 => nMk bd r ρ1
def sNest (j : Nat) (it : FI) (own : Nat) (bd : FB) (loop : FN) : FS := fun ρ => if j = 0 then none else match it ρ with
 | none => none
 | some (ds,ρ1) => if ds.length ≤ SZ then (match nMk bd ds (ρ1 ++ List.replicate own .un) with
  | none => none
  | some ρ2 => match loop ((ρ2.take ρ1.length).set j .un) (List.replicate ds.length []) with
   | none => none
   | some (ρ3,r) => some (.nx (ρ3.set j (.ow (.lst (r.map .lst)))))) else none
end Dm
namespace Br
open PySem PySem.Spec PyProof.Rows L2
def RowsOk (H0 H : Hp) : List Addr → List (List Dm.Dat) → Prop
 | [],[] => True
 | p :: ps,r :: rs => (∃ xs,H p = some (.lst xs) ∧ Reps H0 xs r) ∧ RowsOk H0 H ps rs
 | _,_ => False
theorem RowsOk.len {H0 H : Hp} : ∀ {ps : List Addr} {rs : List (List Dm.Dat)},RowsOk H0 H ps rs → ps.length = rs.length
 | [],[],_ => rfl
 | _ :: _,_ :: _,h => by simp [RowsOk.len h.2]
theorem RowsOk.get {H0 H : Hp} : ∀ {ps : List Addr} {rs : List (List Dm.Dat)} {i : Nat} {r : List Dm.Dat},RowsOk H0 H ps rs → rs[i]? = some r → ∃ p xs,ps[i]? = some p ∧ H p = some (.lst xs) ∧ Reps H0 xs r
 | [],[],_,_,_,e => by simp at e
 | p :: _,_ :: _,0,_,h,e => by simp at e; subst e; obtain ⟨xs,h1,h2⟩ := h.1; exact ⟨p,xs,rfl,h1,h2⟩
 | _ :: _,_ :: _,i + 1,_,h,e => by
  obtain ⟨p,xs,h1,h2⟩ := RowsOk.get (i := i) h.2 (by simpa using e)
  exact ⟨p,xs,by simpa using h1,h2⟩
theorem RowsOk.mono {H0 H H0' H' : Hp} : ∀ {ps : List Addr} {rs : List (List Dm.Dat)},RowsOk H0 H ps rs → Same H0 H0' → (∀ p ∈ ps,H' p = H p) → RowsOk H0' H' ps rs
 | [],[],_,_,_ => trivial
 | p :: ps,r :: rs,h,s,k => by
  obtain ⟨⟨xs,h1,h2⟩,h3⟩ := h
  exact ⟨⟨xs,by rw [k p List.mem_cons_self]; exact h1,h2.mono s⟩,RowsOk.mono h3 s fun q hq => k q (List.mem_cons_of_mem _ hq)⟩
theorem RowsOk.set {H0 H : Hp} {p : Addr} {xs : List V} {r : List Dm.Dat} (w : Reps H0 xs r) : ∀ {ps : List Addr} {rs : List (List Dm.Dat)} {i : Nat},RowsOk H0 H ps rs → ps.Nodup → ps[i]? = some p → RowsOk H0 (upd H p (.lst xs)) ps (rs.set i r)
 | [],[],_,_,_,e => by simp at e
 | q :: ps,_ :: rs,0,h,n,e => by
  simp at e
  subst e
  refine ⟨⟨xs,upd_same,w⟩,h.2.mono (Same.refl _) fun y hy => upd_ne fun z => ?_⟩
  subst z
  exact (List.nodup_cons.mp n).1 hy
 | q :: ps,_ :: rs,i + 1,h,n,e => by
  have e' : ps[i]? = some p := by simpa using e
  obtain ⟨⟨ys,h1,h2⟩,h3⟩ := h
  obtain ⟨n1,n2⟩ := List.nodup_cons.mp n
  refine ⟨⟨ys,?_,h2⟩,RowsOk.set w h3 n2 e'⟩
  rw [upd_ne fun z => ?_]
  ·exact h1
  ·subst z
   exact n1 (List.mem_of_getElem? e')
theorem RowsOk.some {H0 H : Hp} : ∀ {ps : List Addr} {rs : List (List Dm.Dat)},RowsOk H0 H ps rs → ∀ p ∈ ps,∃ o,H p = some o
 | [],[],_,_,h => by cases h
 | q :: ps,_ :: rs,h,p,hp => by
  rcases List.mem_cons.mp hp with rfl | hp
  ·obtain ⟨xs,h1,_⟩ := h.1; exact ⟨_,h1⟩
  ·exact RowsOk.some h.2 p hp
structure NS (j : Nat) (σs : L2.St) (ρs : Dm.Env) (H0s Hs : Hp) (σ : L2.St) (ρ : Dm.Env) (H0 H : Hp) (rows : List (List Dm.Dat)) : Prop where
 st : RepSt H0 H σ ρ
 stp : Stp (Owned σs ρs) H0s Hs H0 H
 own : ∀ a,Owned σ ρ a → Owned σs ρs a ∨ Hs a = none
 fx : σ[0]? = σs[0]?
 ex : ∃ (L : Addr) (ps : List Addr),σ[j]? = some (some (.ref L)) ∧ Hs L = none ∧ H0 L = none ∧ ¬ Owned σ ρ L ∧ H L = some (.lst (ps.map V.ref)) ∧ (L :: ps).Nodup ∧ (∀ p ∈ ps,Hs p = none ∧ H0 p = none ∧ ¬ Owned σ ρ p) ∧ RowsOk H0 H ps rows
theorem NS.est {j : Nat} {σs : L2.St} {ρs : Dm.Env} {H0s Hs : Hp} {σ : L2.St} {ρ ρ' : Dm.Env} {H0 H H0' H' : Hp} {rows : List (List Dm.Dat)} (n : NS j σs ρs H0s Hs σ ρ H0 H rows) (t : ESt σ ρ H0 H ρ' H0' H') : NS j σs ρs H0s Hs σ ρ' H0' H' rows := by
 obtain ⟨L,ps,h1,h2,h3,h4,h5,h6,h7,h8⟩ := n.ex
 obtain ⟨k1,k2,k3⟩ := t.stay0 h5 h3 h4
 refine ⟨t.st,n.stp.trans t.stp n.own,fun a z => n.own a (t.own a z),n.fx,L,ps,h1,h2,k2,k3,k1,h6,fun p hp => ?_,h8.mono t.stp.s0 fun p hp => ?_⟩
 ·obtain ⟨q1,q2,q3⟩ := h7 p hp
  obtain ⟨o,q4⟩ := h8.some p hp
  obtain ⟨z1,z2,z3⟩ := t.stay0 q4 q2 q3
  exact ⟨q1,z2,z3⟩
 ·obtain ⟨q1,q2,q3⟩ := h7 p hp
  obtain ⟨o,q4⟩ := h8.some p hp
  obtain ⟨z1,z2,z3⟩ := t.stay0 q4 q2 q3
  rw [z1,q4]
theorem NS.bind {j : Nat} {σs : L2.St} {ρs : Dm.Env} {H0s Hs : Hp} {σ σ' : L2.St} {ρ ρ' : Dm.Env} {H0 H : Hp} {rows : List (List Dm.Dat)} (n : NS j σs ρs H0s Hs σ ρ H0 H rows) (st : RepSt H0 H σ' ρ') (o : ∀ a,Owned σ' ρ' a → Owned σ ρ a) (hj : σ'[j]? = σ[j]?) (h0 : σ'[0]? = σ[0]?) : NS j σs ρs H0s Hs σ' ρ' H0 H rows := by
 obtain ⟨L,ps,h1,h2,h3,h4,h5,h6,h7,h8⟩ := n.ex
 exact ⟨st,n.stp,fun a z => n.own a (o a z),h0.trans n.fx,L,ps,hj.trans h1,h2,h3,fun z => h4 (o L z),h5,h6,fun p hp => ⟨(h7 p hp).1,(h7 p hp).2.1,fun z => (h7 p hp).2.2 (o p z)⟩,h8⟩
def shrs (H0 H : Hp) (ps : List Addr) : Hp := fun b => if b ∈ ps then H b else H0 b
theorem shrs_in {H0 H : Hp} {ps : List Addr} {b : Addr} (h : b ∈ ps) : shrs H0 H ps b = H b := by unfold shrs; rw [if_pos h]
theorem shrs_out {H0 H : Hp} {ps : List Addr} {b : Addr} (h : b ∉ ps) : shrs H0 H ps b = H0 b := by unfold shrs; rw [if_neg h]
theorem shrs_same {H0 H : Hp} {ps : List Addr} (s : Same H0 H) : Same H0 (shrs H0 H ps) := fun b o e => by
 by_cases q : b ∈ ps
 ·rw [shrs_in q]; exact s _ _ e
 ·rw [shrs_out q]; exact e
theorem shrs_sub {H0 H : Hp} {ps : List Addr} (s : Same H0 H) : Same (shrs H0 H ps) H := fun b o e => by
 by_cases q : b ∈ ps
 ·rw [shrs_in q] at e; exact e
 ·rw [shrs_out q] at e; exact s _ _ e
theorem RowsOk.reps {H0 H H1 : Hp} : ∀ {ps : List Addr} {rs : List (List Dm.Dat)},RowsOk H0 H ps rs → Same H0 H1 → (∀ p ∈ ps,H1 p = H p) → Reps H1 (ps.map V.ref) (rs.map Dm.Dat.lst)
 | [],[],_,_,_ => .nil
 | p :: ps,r :: rs,h,s,k => by
  obtain ⟨⟨xs,h1,h2⟩,h3⟩ := h
  exact .cons (.lst (.inl ((k p List.mem_cons_self).trans h1)) (h2.mono s)) (RowsOk.reps h3 s fun q hq => k q (List.mem_cons_of_mem _ hq))
theorem NS.done {j : Nat} {σs : L2.St} {ρs : Dm.Env} {H0s Hs : Hp} {σ : L2.St} {ρ : Dm.Env} {H0 H : Hp} {rows : List (List Dm.Dat)} (n : NS j σs ρs H0s Hs σ ρ H0 H rows) : ∃ H0',SSt σs ρs H0s Hs σ (ρ.set j (.ow (.lst (rows.map Dm.Dat.lst)))) H0' H := by
 obtain ⟨L,ps,h1,h2,h3,h4,h5,h6,h7,h8⟩ := n.ex
 obtain ⟨n1,n2⟩ := List.nodup_cons.mp h6
 have ss := shrs_same (ps := ps) n.st.same
 have st : RepSt (shrs H0 H ps) H σ ρ := {
  same := shrs_sub n.st.same
  len := n.st.len
  sh := fun i d h => by
   obtain ⟨v,z,r⟩ := n.st.sh i d h
   exact ⟨v,z,r.mono ss⟩
  ow := fun i d h => by
   obtain ⟨b,z,q,w⟩ := n.st.ow i d h
   have nb : b ∉ ps := fun y => (h7 b y).2.2 ⟨i,d,h,z⟩
   exact ⟨b,z,by rw [shrs_out nb]; exact q,w.mono ss rfl⟩
  dis := n.st.dis }
 refine ⟨shrs H0 H ps,st.same_slot h1 h4 (by rw [shrs_out n1]; exact h3) ⟨_,h5,h8.reps ss fun p hp => shrs_in hp⟩,⟨n.stp.s0.trans ss,n.stp.s1,fun a o e => ?_,n.stp.s3⟩,fun a z => ?_,n.fx⟩
 ·by_cases q : a ∈ ps
  ·exact .inl (h7 a q).1
  ·rw [shrs_out q] at e; exact n.stp.s2 a o e
 ·obtain ⟨i,d,z1,z2⟩ := z
  by_cases q : j = i
  ·subst q
   rw [h1] at z2
   cases z2
   exact .inr h2
  ·rw [List.getElem?_set_ne q] at z1
   exact n.own a ⟨i,d,z1,z2⟩
def tDN (j : Nat) (f : Dm.FN) : TS := fun D σ H => ∃ σs ρs H0s Hs H0 ρ rows ρ' rows',NS j σs ρs H0s Hs σ ρ H0 H rows ∧ f ρ rows = some (ρ',rows') ∧ ∀ σ' H0' H',NS j σs ρs H0s Hs σ' ρ' H0' H' rows' → Same H0 H0' → D.nx σ' H'
section
variable {D : Ends} {σ : L2.St} {H : Hp} {j : Nat}
theorem r_nnx (h : tDN j Dm.nNx D σ H) : tNext D σ H := by
 obtain ⟨σs,ρs,H0s,Hs,H0,ρ,rows,ρ',rows',n,e,k⟩ := h
 cases e
 exact k σ H0 H n (Same.refl _)
theorem r_nseq {s u : Dm.FN} (h : tDN j (Dm.nSeq s u) D σ H) : tSeq (tDN j s) (tDN j u) D σ H := by
 obtain ⟨σs,ρs,H0s,Hs,H0,ρ,rows,ρ',rows',n,e,k⟩ := h
 unfold Dm.nSeq at e
 split at e
 ·cases e
 rename_i ρ1 r1 e1
 exact ⟨σs,ρs,H0s,Hs,H0,ρ,rows,ρ1,r1,n,e1,fun σ' H0' H' n' s1 => ⟨σs,ρs,H0s,Hs,H0',ρ1,r1,ρ',rows',n',e,fun σ2 H2 Hc n2 s2 => k σ2 H2 Hc n2 (s1.trans s2)⟩⟩
theorem r_nif {t : Dm.FT} {a b : Dm.FN} (h : tDN j (Dm.nIf t a b) D σ H) : tIfS (tDT t) (tDN j a) (tDN j b) D σ H := by
 obtain ⟨σs,ρs,H0s,Hs,H0,ρ,rows,ρ',rows',n,e,k⟩ := h
 unfold Dm.nIf at e
 split at e
 ·cases e
 ·rename_i ρ1 e1
  refine ⟨H0,ρ,true,ρ1,n.st,e1,fun H1 Hb t1 => ?_⟩
  dsimp only
  rw [if_pos rfl]
  exact ⟨σs,ρs,H0s,Hs,H1,ρ1,rows,ρ',rows',n.est t1,e,fun σ2 H2 Hc n2 s2 => k σ2 H2 Hc n2 (t1.stp.s0.trans s2)⟩
 ·rename_i ρ1 e1
  refine ⟨H0,ρ,false,ρ1,n.st,e1,fun H1 Hb t1 => ?_⟩
  dsimp only
  rw [if_neg Bool.false_ne_true]
  exact ⟨σs,ρs,H0s,Hs,H1,ρ1,rows,ρ',rows',n.est t1,e,fun σ2 H2 Hc n2 s2 => k σ2 H2 Hc n2 (t1.stp.s0.trans s2)⟩
theorem r_nfor {fi : Dm.FI} {bd : Dm.FB} {g : TG} {body : Dm.FN} {is : List Nat} (hb : BD is g bd) (hj : j ∉ is) (h : tDN j (Dm.nFor fi bd body) D σ H) : tFor (tDI fi) g (tDN j body) D σ H := by
 obtain ⟨σs,ρs,H0s,Hs,H0,ρ,rows,ρ',rows',n,e,k⟩ := h
 unfold Dm.nFor at e
 split at e
 ·cases e
 rename_i ys ρ1 e1
 refine ⟨H0,ρ,ys,ρ1,n.st,e1,fun J H00 Hb t1 jw => ?_⟩
 refine ⟨fun i m σ H => ∃ H0 ρ rows,NS j σs ρs H0s Hs σ ρ H0 H rows ∧ Same H00 H0 ∧ m = ys.length - i ∧ i ≤ ys.length ∧ Dm.nForD bd body (ys.drop i) ρ rows = some (ρ',rows'),
  ⟨ys.length,H00,ρ1,rows,n.est t1,Same.refl _,by simp,Nat.zero_le _,by simpa using e⟩,?_⟩
 rintro i m σ H ⟨H0,ρ,rows,n,s00,rfl,hi,e⟩
 obtain ⟨js,jg⟩ := jw H0 H s00 n.st.same
 by_cases hlt : i < ys.length
 ·have hd : ys[i]? = some ys[i] := by simp [hlt]
  obtain ⟨g1,g2⟩ := jg i ys[i] hd
  rw [List.drop_eq_getElem_cons hlt] at e
  unfold Dm.nForD at e
  refine .inr ⟨g1,fun σ' H' => ∃ H0 ρ rows,NS j σs ρs H0s Hs σ' ρ H0 H' rows ∧ Same H00 H0 ∧ Dm.nForD bd body (ys.drop (i + 1)) ρ rows = some (ρ',rows'),?_,fun x H' y => ?_⟩
  ·rintro σ' H' ⟨H0',ρ2,r2,h1,h2,h3⟩
   exact ⟨ys.length - (i + 1),by omega,H0',ρ2,r2,h1,h2,rfl,hlt,h3⟩
  ·obtain ⟨H0',gr,rx⟩ := g2 x H' y
   split at e
   ·cases e
   ·rename_i ρ2 e2
    have t2 := ESt.grow n.st gr
    have n2 := n.est t2
    refine hb H0' H' σ ρ ρ2 x ys[i] _ t2.st rx e2 fun σ2 st2 o2 k2 _ f2 => ?_
    have n3 := n2.bind st2 o2 (k2 j hj) f2
    have s3 : Same H00 H0' := s00.trans gr.s0
    split at e
    ·cases e
    ·rename_i ρ3 r3 e3
     refine ⟨σs,ρs,H0s,Hs,H0',ρ2,rows,ρ3,r3,n3,e3,fun σ4 H4 Hd n4 s4 => ⟨H4,ρ3,r3,n4,s3.trans s4,e⟩⟩
 ·have e' : i = ys.length := by omega
  subst e'
  rw [List.drop_length] at e
  cases e
  exact .inl ⟨js _ (Nat.le_refl _),k σ H0 H n (t1.stp.s0.trans s00)⟩
theorem r_napp {K : PySem.W.Frag} {fi f : Dm.FE} (h : tDN j (Dm.nApp fi f) D σ H) : tDrop (tBM K "list" rAppend (tOp (rIxL K) (tVar j) (tD fi)) (tDA [f])) D σ H := by
 obtain ⟨σs,ρs,H0s,Hs,H0,ρ,rows,ρ',rows',n,e,k⟩ := h
 unfold Dm.nApp at e
 split at e
 case h_2 => cases e
 rename_i z ρ1 e1
 split at e
 ·cases e
 rename_i m em
 split at e
 ·cases e
 rename_i row er
 split at e
 ·cases e
 rename_i x ρ2 e2
 split at e
 ·cases e
 rename_i d ρ3 e3
 split at e
 case isFalse => cases e
 rename_i hz
 cases e
 obtain ⟨L,ps0,h1,_⟩ := n.ex
 refine ⟨_,h1,H0,ρ,_,ρ1,n.st,e1,fun y H1 Hb t1 r1 => ?_⟩
 have n1 := n.est t1
 obtain ⟨L',ps,q1,q2,q3,q4,q5,q6,q7,q8⟩ := n1.ex
 rw [h1] at q1
 cases q1
 obtain ⟨q,xs,hq,hqx,hqr⟩ := q8.get er
 have hqm : q ∈ ps := List.mem_of_getElem? hq
 refine ⟨L,ps.map V.ref,z,V.ref q,rfl,Rep.isInt r1,.inl (.inl q5),?_,.inl ⟨rfl,xs,.inl (.inl hqx)⟩,?_⟩
 ·show (L2.ixN (ps.map V.ref).length z).bind (fun j => (ps.map V.ref)[j]?) = _
  rw [List.length_map,q8.len,← ixN_eq,em]
  show (ps.map V.ref)[m]? = _
  rw [List.getElem?_map,hq]
  rfl
 refine ⟨H1,ρ1,[x],ρ2,n1.st,by unfold Dm.eAs; rw [e2]; rfl,fun vs H2 Hc t2 r2 => ?_⟩
 cases r2 with
 | cons r rr =>
  cases rr
  obtain ⟨H3,t3,b3,r3,_,_⟩ := take1 t2 (Same.refl _) r e3
  have n3 := n1.est t3
  obtain ⟨L',ps',w1,w2,w3,w4,w5,w6,w7,w8⟩ := n3.ex
  rw [h1] at w1
  cases w1
  obtain ⟨k1,_,_⟩ := t3.stay0 q5 q3 q4
  rw [k1] at w5
  have ep : ps' = ps := by
   have : ps.map V.ref = ps'.map V.ref := by injection w5 with z; injection z
   exact ((List.map_inj_right fun a b h => by injection h).mp this).symm
  subst ep
  obtain ⟨q',ys,hq',hqy,hqr'⟩ := w8.get er
  rw [hq] at hq'
  cases hq'
  have nL : L ≠ q := fun z => (List.nodup_cons.mp w6).1 (z ▸ hqm)
  refine ⟨q,ys,_,rfl,rfl,hqy,by rw [hqr'.length]; exact Nat.lt_of_lt_of_le hz (by decide),?_⟩
  obtain ⟨z1,z2,z3⟩ := w7 q hqm
  refine k σ H3 _ ⟨n3.st.aside z2 z3,n3.stp.aside z1,n3.own,n3.fx,L,ps',h1,w2,w3,w4,by rw [upd_ne nL]; exact k1,w6,w7,RowsOk.set (hqr'.append (.cons r3 .nil)) w8 (List.nodup_cons.mp w6).2 hq⟩ (t1.stp.s0.trans t3.stp.s0)
end
theorem nest_run {σ : L2.St} {own : Nat} {bd : Dm.FB} {g : TG} {is : List Nat} {Q : VK} {H00 Hb : Hp} {ρ1 ρ2 : Dm.Env} {ds : List Dm.Dat} {J : It} (hb : BD is g bd) (hl : ∀ i ∈ is,σ.length ≤ i)
  (st1 : RepSt H00 Hb σ ρ1) (jw : JW J H00 ds) (hsz : ds.length ≤ Dm.SZ) (e2 : Dm.nMk bd ds (ρ1 ++ List.replicate own .un) = some ρ2) (D : Addr) (hD : Hb D = none)
  (k : ∀ H0' H' (ps : List Addr),RepSt H0' H' σ (ρ2.take ρ1.length) → Stp (Owned σ ρ1) H00 Hb H0' H' → (∀ a,Owned σ (ρ2.take ρ1.length) a → Owned σ ρ1 a) → H' D = some (.lst (ps.map V.ref)) → H0' D = none → (D :: ps).Nodup → (∀ p ∈ ps,Hb p = none ∧ H0' p = none) →
   RowsOk H0' H' ps (List.replicate ds.length []) → Q (.ref D) H') :
  ∃ W : Nat → Nat → L2.St → Hp → Prop,(∃ m,W 0 m (σ ++ List.replicate own none) (upd Hb D (.lst []))) ∧ ∀ i m σ' H',W i m σ' H' →
  (J.stop i H' ∧ Q (.ref D) H') ∨ (J.go i H' ∧ ∀ x H2,J.yld i H' x H2 → g x σ' H2 fun σ2 H3 => tYes σ2 H3 fun b H4 => if b = true
   then tLst tNil σ2 H4 fun y H5 => ∃ acc,H5 D = some (.lst acc) ∧ acc.length < sizeLine ∧ ∃ m',m' < m ∧ W (i + 1) m' σ2 (upd H5 D (.lst (acc ++ [y])))
   else ∃ m',m' < m ∧ W (i + 1) m' σ2 H4) := by
 have noD : ¬ Owned σ ρ1 D := st1.notOwned hD
 refine ⟨fun i m σ' H' => ∃ (H0c : Hp) (ρc : Dm.Env) (ps : List Addr),RepSt H0c H' σ' ρc ∧ Same H00 H0c ∧ m = ds.length - i ∧ i ≤ ds.length ∧ Dm.nMk bd (ds.drop i) ρc = some ρ2 ∧
  H' D = some (.lst (ps.map V.ref)) ∧ ps.length = i ∧ H0c D = none ∧ (D :: ps).Nodup ∧ (∀ p ∈ ps,Hb p = none ∧ H0c p = none) ∧ RowsOk H0c H' ps (List.replicate i []) ∧ Stp (Owned σ ρ1) H00 Hb H0c H' ∧ (∀ j,j < σ.length → σ'[j]? = σ[j]?) ∧ (∀ a,Owned σ' ρc a → Owned σ ρ1 a),
  ⟨ds.length,H00,ρ1 ++ List.replicate own .un,[],(st1.aside (st1.same.free hD) noD).ext own,Same.refl _,by simp,Nat.zero_le _,by simpa using e2,upd_same,rfl,st1.same.free hD,by simp,by simp,trivial,(Stp.refl _ _ _).aside hD,
   fun j hj => List.getElem?_append_left hj,fun a z => owned_ext st1 z⟩,?_⟩
 rintro i m σ' H' ⟨H0c,ρc,ps,sc,s00,rfl,hi,ec,hDl,hpl,n0,nd,hps,hro,sp,hσ,ho⟩
 have nOc : ¬ Owned σ' ρc D := fun z => noD (ho D z)
 have nOp : ∀ p ∈ ps,¬ Owned σ' ρc p := fun p hp z => st1.notOwned (hps p hp).1 (ho p z)
 obtain ⟨js,jg⟩ := jw H0c H' s00 sc.same
 by_cases hlt : i < ds.length
 ·have hd : ds[i]? = some ds[i] := by simp [hlt]
  obtain ⟨g1,g2⟩ := jg i ds[i] hd
  rw [List.drop_eq_getElem_cons hlt] at ec
  unfold Dm.nMk at ec
  refine .inr ⟨g1,fun y H2 yy => ?_⟩
  obtain ⟨H0',gr,rx⟩ := g2 y H2 yy
  split at ec
  ·cases ec
  rename_i ρ3 e3
  have t2 := ESt.grow sc gr
  obtain ⟨hD2,n02,no2⟩ := t2.stay0 hDl n0 nOc
  refine hb H0' H2 σ' ρc ρ3 y ds[i] _ t2.st rx e3 fun σ3 st3 o3 k3 d3 _ => ?_
  unfold tYes
  dsimp only
  rw [if_pos rfl]
  refine ⟨Nat.zero_le _,fun p hp => ?_⟩
  have hpD : p ≠ D := fun z => by rw [z,hD2] at hp; cases hp
  have noP : ¬ Owned σ3 ρ3 p := st3.notOwned hp
  have pnew : ∀ q ∈ ps,q ≠ p := fun q hq z => by
   obtain ⟨o,h1⟩ := hro.some q hq
   have := gr.s1 q o h1
   rw [z,hp] at this; cases this
  refine ⟨ps.map V.ref,by rw [upd_ne (Ne.symm hpD)]; exact hD2,?_,ds.length - (i + 1),by omega,H0',ρ3,ps ++ [p],?_,s00.trans gr.s0,rfl,hlt,ec,?_,by simp [hpl],n02,?_,?_,?_,?_,?_,?_⟩
  ·rw [List.length_map,hpl]
   unfold Dm.SZ at hsz
   exact Nat.lt_of_lt_of_le (Nat.lt_of_lt_of_le hlt hsz) (by decide)
  ·have no3 : ¬ Owned σ3 ρ3 D := fun z => no2 (o3 D z)
   exact (st3.aside (st3.same.free hp) noP).aside n02 no3
  ·rw [upd_same,List.map_append]; rfl
  ·rw [← List.cons_append]
   refine List.nodup_append.mpr ⟨nd,by simp,fun a ha b hb => ?_⟩
   rw [List.mem_singleton.mp hb]
   rcases List.mem_cons.mp ha with rfl | ha
   ·exact Ne.symm hpD
   ·exact pnew a ha
  ·intro q hq
   rcases List.mem_append.mp hq with hq | hq
   ·refine ⟨(hps q hq).1,?_⟩
    obtain ⟨o,h1⟩ := hro.some q hq
    exact (t2.stay0 h1 (hps q hq).2 (nOp q hq)).2.1
   ·rw [List.mem_singleton.mp hq]
    exact ⟨(sp.trans t2.stp fun a z => .inl (ho a z)).gone hp,st3.same.free hp⟩
  ·have base : RowsOk H0' (upd (upd H2 p (.lst [])) D (.lst (ps.map V.ref ++ [V.ref p]))) ps (List.replicate i []) := hro.mono gr.s0 fun q hq => by
    have hqD : q ≠ D := fun z => (List.nodup_cons.mp nd).1 (z ▸ hq)
    obtain ⟨o,h1⟩ := hro.some q hq
    rw [upd_ne hqD,upd_ne (pnew q hq),gr.s1 q o h1,h1]
   have app : ∀ {H0 H : Hp} {ps : List Addr} {rs : List (List Dm.Dat)} {p : Addr},RowsOk H0 H ps rs → H p = some (.lst []) → RowsOk H0 H (ps ++ [p]) (rs ++ [[]]) := by
    intro H0 H ps rs p h1 h2
    induction ps generalizing rs with
    | nil => cases rs with
     | nil => exact ⟨⟨[],h2,.nil⟩,trivial⟩
     | cons _ _ => exact h1.elim
    | cons q ps ih => cases rs with
     | nil => exact h1.elim
     | cons r rs => exact ⟨h1.1,ih h1.2⟩
   have := app base (p := p) (by rw [upd_ne hpD,upd_same])
   rw [List.replicate_succ']
   exact this
  ·exact ((sp.trans t2.stp fun a z => .inl (ho a z)).aside ((sp.trans t2.stp fun a z => .inl (ho a z)).gone hp)).aside hD
  ·exact fun j hj => (k3 j fun z => Nat.not_lt.mpr (hl j z) hj).trans (hσ j hj)
  ·exact fun a z => ho a (o3 a z)
 ·have e' : i = ds.length := by omega
  subst e'
  rw [List.drop_length] at ec
  cases ec
  refine .inl ⟨js _ (Nat.le_refl _),k H0c H' ps ?_ sp ?_ hDl n0 nd hps hro⟩
  all_goals
   have hlen : σ.length ≤ ρ2.length := by
    rw [← sc.len]
    refine Nat.not_lt.mp fun z => ?_
    have q := hσ σ'.length z
    rw [List.getElem?_eq_none (Nat.le_refl _),List.getElem?_eq_getElem z] at q
    cases q
   have tk : ∀ {j : Nat} {c : Dm.Cell},(ρ2.take ρ1.length)[j]? = some c → j < σ.length ∧ ρ2[j]? = some c := fun {j c} h => by
    have hj : j < ρ1.length := by
     have := (List.getElem?_eq_some_iff.mp h).1
     rw [List.length_take] at this
     omega
    rw [List.getElem?_take_of_lt hj] at h
    exact ⟨by rw [st1.len]; exact hj,h⟩
  ·refine ⟨sc.same,?_,fun j d h => ?_,fun j d h => ?_,fun j j' d d' a h1 h2 h3 h4 => ?_⟩
   ·rw [List.length_take,← st1.len]; omega
   ·obtain ⟨hj,h⟩ := tk h
    obtain ⟨v,q,r⟩ := sc.sh j d h
    exact ⟨v,(hσ j hj).symm.trans q,r⟩
   ·obtain ⟨hj,h⟩ := tk h
    obtain ⟨v,q,r⟩ := sc.ow j d h
    exact ⟨v,(hσ j hj).symm.trans q,r⟩
   ·obtain ⟨hj,h1⟩ := tk h1
    obtain ⟨hj',h2⟩ := tk h2
    exact sc.dis j j' d d' a h1 h2 ((hσ j hj).trans h3) ((hσ j' hj').trans h4)
  ·intro a ⟨j,d,h1,h2⟩
   obtain ⟨hj,h1⟩ := tk h1
   exact ho a ⟨j,d,h1,(hσ j hj).trans h2⟩
theorem sNest_out {j own : Nat} {fi : Dm.FI} {bd : Dm.FB} {loop : Dm.FN} {ρ : Dm.Env} {z : Dm.Out} (q : Dm.sNest j fi own bd loop ρ = some z) : ∃ ds ρ1 ρ2 ρ3 r3,j ≠ 0 ∧ fi ρ = some (ds,ρ1) ∧ ds.length ≤ Dm.SZ ∧ Dm.nMk bd ds (ρ1 ++ List.replicate own .un) = some ρ2 ∧
  loop ((ρ2.take ρ1.length).set j .un) (List.replicate ds.length []) = some (ρ3,r3) ∧ z = .nx (ρ3.set j (.ow (.lst (r3.map .lst)))) := by
 unfold Dm.sNest at q
 split at q
 ·cases q
 rename_i hj0
 split at q
 ·cases q
 rename_i ds ρ1 e1
 split at q
 case isFalse => cases q
 rename_i hsz
 split at q
 ·cases q
 rename_i ρ2 e2
 split at q
 ·cases q
 rename_i ρ3 r3 e3
 cases q
 exact ⟨ds,ρ1,ρ2,ρ3,r3,hj0,e1,hsz,e2,e3,rfl⟩
theorem sSeq_nx {s u : Dm.FS} {ρ : Dm.Env} {o : Dm.Out} (hs : ∀ z,s ρ = some z → ∃ ρ',z = .nx ρ') (e : Dm.sSeq s u ρ = some o) : ∃ ρ1,s ρ = some (.nx ρ1) ∧ u ρ1 = some o := by
 cases q : s ρ with
 | none => unfold Dm.sSeq at e; rw [q] at e; cases e
 | some z =>
  obtain ⟨ρ1,rfl⟩ := hs z q
  unfold Dm.sSeq at e
  rw [q] at e
  exact ⟨ρ1,rfl,e⟩
theorem r_nest {σ : L2.St} {H : Hp} {D : Ends} {j own : Nat} {fi : Dm.FI} {bd : Dm.FB} {g : TG} {is : List Nat} {loop : Dm.FN} {gs : Dm.FS} (hb : BD is g bd) (hl : ∀ i ∈ is,σ.length ≤ i) (hj : j < σ.length) (h : tDS (Dm.sSeq (Dm.sNest j fi own bd loop) gs) D σ H) :
  tSeq (tAsg (tLC (tDI fi) own g tYes (tLst tNil)) (gName j)) (tSeq (tDN j loop) (tDS gs)) D σ H := by
 obtain ⟨H0,ρ,o,st,e,k⟩ := h
 obtain ⟨ρ9,e9,e⟩ := sSeq_nx (fun z q => by obtain ⟨_,_,_,_,_,_,_,_,_,_,z⟩ := sNest_out q; exact ⟨_,z⟩) e
 obtain ⟨ds,ρ1,ρ2,ρ3,r3,hj0,e1,hsz,e2,e3,z9⟩ := sNest_out e9
 cases z9
 refine ⟨H0,ρ,ds,ρ1,st,e1,fun J H00 Hb t1 jw L hL => nest_run (Q := fun x H1 => gName j x σ H1 (tSeq (tDN j loop) (tDS gs) D)) hb hl t1.st jw hsz e2 L hL fun H0' H' ps st' sp' ho' hDl n0 nd hps hro => ?_⟩
 have nL : ¬ Owned σ ρ1 L := t1.st.notOwned hL
 have om : ∀ a,Owned (σ.set j (some (.ref L))) ((ρ2.take ρ1.length).set j .un) a → Owned σ (ρ2.take ρ1.length) a := fun a ⟨i,d,h1,h2⟩ => by
  rcases set_get h1 with ⟨_,z⟩ | ⟨hij,h1⟩
  ·cases z
  ·rw [List.getElem?_set_ne (Ne.symm hij)] at h2
   exact ⟨i,d,h1,h2⟩
 have st2 : RepSt H0' H' (σ.set j (some (.ref L))) ((ρ2.take ρ1.length).set j .un) := {
  same := st'.same
  len := by rw [List.length_set,List.length_set]; exact st'.len
  sh := fun i d h => by
   rcases set_get h with ⟨_,z⟩ | ⟨hij,h⟩
   ·cases z
   ·obtain ⟨v,q,r⟩ := st'.sh i d h
    exact ⟨v,by rw [List.getElem?_set_ne (Ne.symm hij)]; exact q,r⟩
  ow := fun i d h => by
   rcases set_get h with ⟨_,z⟩ | ⟨hij,h⟩
   ·cases z
   ·obtain ⟨v,q,r⟩ := st'.ow i d h
    exact ⟨v,by rw [List.getElem?_set_ne (Ne.symm hij)]; exact q,r⟩
  dis := fun i i' d d' a h1 h2 h3 h4 => by
   rcases set_get h1 with ⟨_,z⟩ | ⟨q1,h1⟩
   ·cases z
   rcases set_get h2 with ⟨_,z⟩ | ⟨q2,h2⟩
   ·cases z
   rw [List.getElem?_set_ne (Ne.symm q1)] at h3
   rw [List.getElem?_set_ne (Ne.symm q2)] at h4
   exact st'.dis i i' d d' a h1 h2 h3 h4 }
 have sp : Stp (Owned σ ρ) H0 H H0' H' := t1.stp.trans sp' fun a z => .inl (t1.own a z)
 have n : NS j σ ρ H0 H (σ.set j (some (.ref L))) ((ρ2.take ρ1.length).set j .un) H0' H' (List.replicate ds.length []) :=
  ⟨st2,sp,fun a z => .inl (t1.own a (ho' a (om a z))),List.getElem?_set_ne hj0,L,ps,List.getElem?_set_self hj,t1.stp.gone hL,n0,fun z => nL (ho' L (om L z)),hDl,nd,fun p hp => ⟨t1.stp.gone (hps p hp).1,(hps p hp).2,fun z => t1.st.notOwned (hps p hp).1 (ho' p (om p z))⟩,hro⟩
 refine ⟨σ,ρ,H0,H,H0',_,_,ρ3,r3,n,e3,fun σ4 H4 Hd n4 _ => ?_⟩
 obtain ⟨H5,t5⟩ := n4.done
 exact ⟨H5,_,o,t5.st,e,k.pre t5⟩
abbrev DN (X : Cx) (j : Nat) (st : Stmt) (f : Dm.FN) : Prop := PS X st (tDN j f)
abbrev DNs (X : Cx) (j : Nat) (st : List Stmt) (f : Dm.FN) : Prop := PSs X st (tDN j f)
section
variable {X : Cx} {st : Stmt} {rest : List Stmt} {fs gs : Dm.FN} {e c : Expr} {f : Dm.FE} {pos : Pos} {j : Nat}
theorem n_nil : DNs X j [] Dm.nNx := PSs.weak pss_nil fun _ _ _ => r_nnx
theorem n_cons (h1 : DN X j st fs) (h2 : DNs X j rest gs) : DNs X j (st :: rest) (Dm.nSeq fs gs) := PSs.weak (pss_cons h1 h2) fun _ _ _ => r_nseq
theorem n_one (h1 : DN X j st fs) : DNs X j [st] fs := pss_one h1
theorem n_if {t : Dm.FT} {x y : List Stmt} (ht : DT X c t) (ha : DNs X j x fs) (hb : DNs X j y gs) : DN X j (.If c x y pos) (Dm.nIf t fs gs) := PS.weak (ps_if ht ha hb) fun _ _ _ => r_nif
theorem n_for {tg it : Expr} {fi : Dm.FI} {is : List Nat} {bd : Dm.FB} {body : List Stmt} (hp : PassesOwn (model X.prog X.w) X.A X.env X.xe) (hc : X.calm = true) (hi : DI X tg it fi) (hg : TG' X tg is bd) (hb : DNs X j body fs) (hj : decide (j ∈ is) = false := by rfl)
  (hs : ∀ x,foldedSetIterable it X.env x = pure x := by intro _; rfl) : DN X j (.For tg it body [] pos) (Dm.nFor fi bd fs) := by
 obtain ⟨g,h1,h2⟩ := hg.ex
 exact PS.weak (ps_for hp hc hi h1 hb hs) fun _ _ _ => r_nfor h2 (of_decide_eq_false hj)
theorem n_app {x : Str} {i : Expr} {fi : Dm.FE} {px sp ap cp : Pos} (hi' : DE X i fi) (he : DE X e f) (hi : X.N[j]? = some x := by rfl) (hv : Vis X.env.scope x := by first | exact Or.inl rfl | exact Or.inr (Or.inl rfl) | exact Or.inr (Or.inr rfl)) (hd : (x == ("__debug__" : Str)) = false := by decide)
  (hcd : (x == ("__classdict__" : Str)) = false := by decide) (hpl : PlainIx i := by intro _ _; rfl) (hbase : attributeBase (.Subscript (.Name x px) i sp) "append" X.env (eval (.Subscript (.Name x px) i sp) X.env) = eval (.Subscript (.Name x px) i sp) X.env := by rfl)
  (hfew : ((backTo cp (starEach [e] X.env)).all (fun x => !x.1) && (backToKw cp (keywordEach [] X.env)).all (fun x => x.1.isSome)
   && decide ([e].length + ([] : List Keyword).length + (if ([] : List Keyword).isEmpty then 0 else 1) < 30)) = true := by rfl)
  (hline : (ap.endLine == cp.line) = true := by rfl) (hs : starEach [e] X.env = (false,eval e X.env) :: starEach [] X.env := by rfl) (hplain : (backTo cp (starEach [] X.env)).any (·.1) = false := by rfl)
  (hsw : swapsWith (.Call (.Attribute (.Subscript (.Name x px) i sp) "append" ap) [e] [] cp) none pos.line X.env = pure false := by rfl) :
  DN X j (.Expr (.Call (.Attribute (.Subscript (.Name x px) i sp) "append" ap) [e] [] cp) pos) (Dm.nApp fi f) :=
 PS.weak (ps_expr (pe_bm PySem.F.plainAttrs_list PySem.F.slot_list_append PySem.F.type_list_append mt_append (pe_ix ix_list (pe_var hi hv hd hcd) hi' hpl) (a_cons he a_nil hs) hbase hfew hline hs hplain) hsw) fun _ _ _ => r_napp
theorem s_nest (j : Nat) (nm own : List Str) {y : Str} {py spos lpos : Pos} {tg iter : Expr} {scope : Scope} {is : List Nat} {bd : Dm.FB} {fi : Dm.FI} {loop : Dm.FN} {gs : Dm.FS} {lst : Stmt} (hN : X.N.Nodup) (hg : TGc X nm scope own tg is bd) (hi : DI X tg iter fi) (hlp : DN X j lst loop) (hre : DSs X rest gs)
  (hc : X.calm = true := by rfl) (hk : scope.kind = .function := by rfl) (hS : cscOk X.env.scope X.N nm scope = true := by rfl) (hl : (is.all fun i => decide (X.N.length ≤ i)) = true := by rfl) (hj : X.N[j]? = some y := by rfl) (hy : Loc X.env.scope y := by first | exact Or.inl rfl | exact Or.inr rfl)
  (hsw : swapsWith (.ListComp (.List [] lpos) [⟨tg,iter,[],0⟩] scope pos) (some (.Name y py)) spos.line X.env = pure true := by rfl) (hs : ∀ y,foldedSetIterable iter X.env y = pure y := by intro _; rfl)
  (hf : X.fn y = true ∨ X.env.scope.names.lookup y = some .local := by first | exact .inl rfl | exact .inr rfl | assumption) :
  DSs X (.Assign [.Name y py] (.ListComp (.List [] lpos) [⟨tg,iter,[],0⟩] scope pos) spos :: lst :: rest) (Dm.sSeq (Dm.sNest j fi own.length bd loop) gs) := by
 obtain ⟨g,h1,h2⟩ := hg.ex
 have h := pss_cons (ps_set_comp hN hj hy hc (CScope.of hS hk) hi h1 (fun cl C s H fp => pts_nil) (fun cl C s H fp => pe_lst (pos := lpos) pa_nil) hsw hs hf) (pss_cons hlp hre)
 intro pins s σ H D I q
 exact h pins s σ H D I (r_nest h2 (fun i hi => by rw [I.len]; exact hl_of hl i hi) (by rw [I.len]; exact (List.getElem?_eq_some_iff.mp hj).1) q)
end
section
variable {σ : L2.St} {H : Hp} {Q : VK}
end
open Classical in
section
variable {X : Cx} {e b : Expr} {es : List Expr} {fs : List Dm.FE} {fb : Dm.FE} {p pos : Pos}
end
section
variable {X : Cx} {a b c e : Expr} {fa fb fc : Dm.FE} {p pos : Pos}
end
section
variable {X : Cx} {tg : Expr}
end
open PySem
variable {C : List Value → Prop} {us : List Value}
theorem len0 (h : us.length = 0) (c : C []) : C us := by rw [List.eq_nil_of_length_eq_zero h]; exact c
theorem lenS {n : Nat} {C : List Value → Prop} {us : List Value} (h : us.length = n + 1) (c : ∀ a us,us.length = n → C (a :: us)) : C us := by
 cases us with
 | nil => cases h
 | cons a us => exact c a us (by simpa using h)
theorem len1 (h : us.length = 1) (c : ∀ a,C [a]) : C us := lenS h fun a _ h => len0 h (C := fun us => C (a :: us)) (c a)
theorem len2 (h : us.length = 2) (c : ∀ a b,C [a,b]) : C us := lenS h fun a _ h => len1 h (C := fun us => C (a :: us)) (c a)
theorem len3 (h : us.length = 3) (c : ∀ a b d,C [a,b,d]) : C us := lenS h fun a _ h => len2 h (C := fun us => C (a :: us)) (c a)
theorem len4 (h : us.length = 4) (c : ∀ a b d e,C [a,b,d,e]) : C us := lenS h fun a _ h => len3 h (C := fun us => C (a :: us)) (c a)
theorem len5 (h : us.length = 5) (c : ∀ a b d e f,C [a,b,d,e,f]) : C us := lenS h fun a _ h => len4 h (C := fun us => C (a :: us)) (c a)
end Br
namespace L2
open PySem
variable {K : PySem.W.Frag} {x qual : Str} {st : Stmt} {f : Addr} {fd : FuncData} {ps : List Str}
theorem Fun.binds1 (F : Fun K x qual st f fd) (hp : ps.length = 1) (h : ∀ (kV doc pm : Value) (an : Option Addr) (cdv ct : Value) (a : Value),bindArgs (PySem.W.fnOf x qual (defArgs st) (defBody st) (defScope st) .none kV doc pm an cdv ct) ⟨[a],[]⟩ = pure (ps.zip [a])) : Binds K fd ps [] :=
 F.binds fun kV doc pm an cdv ct us hl => Br.len1 (C := fun us => bindArgs (PySem.W.fnOf x qual (defArgs st) (defBody st) (defScope st) .none kV doc pm an cdv ct) ⟨us,[]⟩ = pure (ps.zip us)) (hl.trans hp) (h kV doc pm an cdv ct)
theorem Fun.binds2 (F : Fun K x qual st f fd) (hp : ps.length = 2) (h : ∀ (kV doc pm : Value) (an : Option Addr) (cdv ct : Value) (a b : Value),bindArgs (PySem.W.fnOf x qual (defArgs st) (defBody st) (defScope st) .none kV doc pm an cdv ct) ⟨[a,b],[]⟩ = pure (ps.zip [a,b])) : Binds K fd ps [] :=
 F.binds fun kV doc pm an cdv ct us hl => Br.len2 (C := fun us => bindArgs (PySem.W.fnOf x qual (defArgs st) (defBody st) (defScope st) .none kV doc pm an cdv ct) ⟨us,[]⟩ = pure (ps.zip us)) (hl.trans hp) (h kV doc pm an cdv ct)
theorem Fun.binds3 (F : Fun K x qual st f fd) (hp : ps.length = 3) (h : ∀ (kV doc pm : Value) (an : Option Addr) (cdv ct : Value) (a b d : Value),bindArgs (PySem.W.fnOf x qual (defArgs st) (defBody st) (defScope st) .none kV doc pm an cdv ct) ⟨[a,b,d],[]⟩ = pure (ps.zip [a,b,d])) : Binds K fd ps [] :=
 F.binds fun kV doc pm an cdv ct us hl => Br.len3 (C := fun us => bindArgs (PySem.W.fnOf x qual (defArgs st) (defBody st) (defScope st) .none kV doc pm an cdv ct) ⟨us,[]⟩ = pure (ps.zip us)) (hl.trans hp) (h kV doc pm an cdv ct)
theorem Fun.binds4 (F : Fun K x qual st f fd) (hp : ps.length = 4) (h : ∀ (kV doc pm : Value) (an : Option Addr) (cdv ct : Value) (a b d e : Value),bindArgs (PySem.W.fnOf x qual (defArgs st) (defBody st) (defScope st) .none kV doc pm an cdv ct) ⟨[a,b,d,e],[]⟩ = pure (ps.zip [a,b,d,e])) : Binds K fd ps [] :=
 F.binds fun kV doc pm an cdv ct us hl => Br.len4 (C := fun us => bindArgs (PySem.W.fnOf x qual (defArgs st) (defBody st) (defScope st) .none kV doc pm an cdv ct) ⟨us,[]⟩ = pure (ps.zip us)) (hl.trans hp) (h kV doc pm an cdv ct)
theorem Fun.binds5 (F : Fun K x qual st f fd) (hp : ps.length = 5) (h : ∀ (kV doc pm : Value) (an : Option Addr) (cdv ct : Value) (a b d e g : Value),bindArgs (PySem.W.fnOf x qual (defArgs st) (defBody st) (defScope st) .none kV doc pm an cdv ct) ⟨[a,b,d,e,g],[]⟩ = pure (ps.zip [a,b,d,e,g])) : Binds K fd ps [] :=
 F.binds fun kV doc pm an cdv ct us hl => Br.len5 (C := fun us => bindArgs (PySem.W.fnOf x qual (defArgs st) (defBody st) (defScope st) .none kV doc pm an cdv ct) ⟨us,[]⟩ = pure (ps.zip us)) (hl.trans hp) (h kV doc pm an cdv ct)
end L2
namespace Dm
end Dm
namespace Br
open PySem L2
section
variable {X : Cx} {e : Expr} {es : List Expr} {fs : List Dm.FE} {p pos : Pos}
end
end Br
namespace Dm
end Dm
namespace Br
open PySem PySem.Spec PyProof.Rows L2
section
variable {X : Cx} {e : Expr} {es : List Expr} {fs : List Dm.FE} {p pos : Pos}
end
section
variable {X : Cx} {e1 e2 e3 : Expr} {f1 f2 f3 : Dm.FE} {p pos kpos : Pos}
end
end Br
namespace Dm
def headK : Dat → Option Nat
 | .lst [] => some 0
 | .lst (.int _ :: _) => some 1
 | .lst (.tup xs :: _) => some (2 + xs.length)
 | .lst (.lst _ :: _) => some 1000000
 | _ => none
mutual
def noLk (k : Nat) : Dat → Bool
 | .tup xs => noLks k xs
 | .lst xs => (match headK (.lst xs) with
  | some j => decide (j ≠ k)
  | none => false) && noLks k xs
 | .dct _ vs => noLks k vs
 | _ => true
def noLks (k : Nat) : List Dat → Bool
 | [] => true
 | x :: r => noLk k x && noLks k r
end
def tkk (k : Nat) (ρ : Env) : Val → Option (Dat × Env)
 | .val d => some (d,ρ)
 | .new d => some (d,ρ)
 | .slot i => match ρ[i]? with
  | some (.ow d) => if headK d = some k then some (d,ρ) else some (d,ρ.set i (.sh d))
  | some (.sh d) => some (d,ρ)
  | _ => none
def tksk (k : Nat) (ρ : Env) : List Val → Option (List Dat × Env)
 | [] => some ([],ρ)
 | x :: r => match tkk k ρ x with
  | none => none
  | some (d,ρ1) => match tksk k ρ1 r with
   | none => none
   | some (ds,ρ2) => some (d :: ds,ρ2)
def eFk (k : Nat) (f : List Dat → Option RV) (as : List FE) : FE := fun ρ => match eAs as ρ with
 | none => none
 | some (xs,ρ1) => match tksk k ρ1 xs with
  | none => none
  | some (ds,ρ2) => match f ds with
   | none => none
   | some v => if noLk k v.dat then some (v.toVal,ρ2) else none
end Dm
namespace Br
open PySem PySem.Spec PyProof.Rows L2
theorem headK_lst {d : Dm.Dat} {k : Nat} (h : Dm.headK d = some k) : ∃ ds,d = .lst ds := by
 unfold Dm.headK at h
 split at h
 ·exact ⟨_,rfl⟩
 ·exact ⟨_,rfl⟩
 ·exact ⟨_,rfl⟩
 ·exact ⟨_,rfl⟩
 ·cases h
theorem no_both {H : Hp} {a : Addr} {xs ys : List V} (h : H a = some (.tup xs)) (q : Rd H a (.lst ys)) : False := by
 rcases q with q | ⟨o,q⟩
 ·rw [h] at q; cases q
 ·rw [h] at q; cases q
theorem kind_one {H : Hp} {xs : List V} {ds es : List Dm.Dat} {j k : Nat} (r : Reps H xs ds) (q : Reps H xs es) (h1 : Dm.headK (.lst ds) = some j) (h2 : Dm.headK (.lst es) = some k) : j = k := by
 cases r with
 | nil => cases q; cases h1; cases h2; rfl
 | cons r _ =>
  cases q with
  | cons q _ =>
   unfold Dm.headK at h1 h2
   split at h1
   ·rename_i z; cases z
   ·rename_i z
    cases z
    cases r
    cases q
    cases h1; cases h2; rfl
   ·rename_i z
    cases z
    cases h1
    split at h2
    ·rename_i z; cases z
    ·rename_i z; cases z; cases q; cases r
    ·rename_i z
     cases z
     cases h2
     cases r with
     | tup a ra =>
      cases q with
      | tup b rb =>
       rw [a] at b
       cases b
       rw [← ra.length,← rb.length]
    ·rename_i z
     cases z
     cases r with
     | tup a ra =>
      cases q with
      | lst b rb => exact (no_both a b).elim
    ·cases h2
   ·rename_i z
    cases z
    cases h1
    split at h2
    ·rename_i z; cases z
    ·rename_i z; cases z; cases q; cases r
    ·rename_i z
     cases z
     cases q with
     | tup a ra =>
      cases r with
      | lst b rb => exact (no_both a b).elim
    ·cases h2; rfl
    ·cases h2
   ·cases h1
theorem tkk_tk {k : Nat} {ρ ρ' : Dm.Env} {x : Dm.Val} {d : Dm.Dat} (e : Dm.tkk k ρ x = some (d,ρ')) : Dm.tk ρ x = some (d,ρ') ∨ ∃ i ds,x = .slot i ∧ ρ[i]? = some (.ow (.lst ds)) ∧ Dm.headK (.lst ds) = some k ∧ d = .lst ds ∧ ρ' = ρ := by
 cases x with
 | val d' => exact .inl e
 | new d' => exact .inl e
 | slot i =>
  unfold Dm.tkk at e
  dsimp only at e
  split at e
  ·rename_i d' h
   split at e
   ·rename_i hk
    cases e
    obtain ⟨ds,rfl⟩ := headK_lst hk
    exact .inr ⟨i,ds,rfl,h,hk,rfl,rfl⟩
   ·left
    unfold Dm.tk
    dsimp only
    rw [h]
    exact e
  ·rename_i d' h
   left
   unfold Dm.tk
   dsimp only
   rw [h]
   exact e
  ·cases e
theorem tkk_keep {k : Nat} {ρ ρ' : Dm.Env} {x : Dm.Val} {d c : Dm.Dat} {i : Nat} (e : Dm.tkk k ρ x = some (d,ρ')) (h : ρ[i]? = some (.ow c)) (hc : Dm.headK c = some k) : ρ'[i]? = some (.ow c) := by
 cases x with
 | val d' => cases e; exact h
 | new d' => cases e; exact h
 | slot j =>
  unfold Dm.tkk at e
  dsimp only at e
  split at e
  ·rename_i d' hj
   split at e
   ·cases e; exact h
   ·rename_i hn
    cases e
    by_cases q : j = i
    ·subst q
     rw [h] at hj
     cases hj
     exact absurd hc hn
    ·rw [List.getElem?_set_ne q]; exact h
  ·cases e; exact h
  ·cases e
theorem tksk_keep {k i : Nat} {c : Dm.Dat} (hc : Dm.headK c = some k) : ∀ {xs : List Dm.Val} {ρ ρ' : Dm.Env} {ds : List Dm.Dat},Dm.tksk k ρ xs = some (ds,ρ') → ρ[i]? = some (.ow c) → ρ'[i]? = some (.ow c)
 | [],_,_,_,e,h => by cases e; exact h
 | x :: xs,ρ,ρ',ds,e,h => by
  unfold Dm.tksk at e
  split at e
  ·cases e
  rename_i d ρ1 e1
  split at e
  ·cases e
  rename_i ds' ρ2 e2
  cases e
  exact tksk_keep hc e2 (tkk_keep e1 h hc)
def RepK (k : Nat) (H0 : Hp) (σ : L2.St) (ρ : Dm.Env) (v : V) (d : Dm.Dat) : Prop := Rep H0 v d ∨ ∃ (i : Nat) (b : Addr) (ds : List Dm.Dat),d = .lst ds ∧ v = .ref b ∧ ρ[i]? = some (.ow (.lst ds)) ∧ Dm.headK (.lst ds) = some k ∧ σ[i]? = some (some (.ref b))
inductive RepKs (k : Nat) (H0 : Hp) (σ : L2.St) (ρ : Dm.Env) : List V → List Dm.Dat → Prop
 | nil : RepKs k H0 σ ρ [] []
 | cons {v : V} {d : Dm.Dat} {vs : List V} {ds : List Dm.Dat} : RepK k H0 σ ρ v d → RepKs k H0 σ ρ vs ds → RepKs k H0 σ ρ (v :: vs) (d :: ds)
theorem takesk {k : Nat} {Hs H0s H0 H : Hp} {σ : L2.St} {ρs : Dm.Env} : ∀ {xs : List Dm.Val} {vs : List V} {ρ ρ' : Dm.Env} {ds : List Dm.Dat} {H0c : Hp},ESt σ ρs H0s Hs ρ H0c H → Same H0 H0c → RepVs Hs H0 H σ ρ vs xs → Dm.tksk k ρ xs = some (ds,ρ') →
  ∃ H0c',ESt σ ρs H0s Hs ρ' H0c' H ∧ Same H0c H0c' ∧ RepKs k H0c' σ ρ' vs ds
 | [],_,ρ,ρ',ds,H0c,t,b,r,e => by
  cases r
  cases e
  exact ⟨H0c,t,Same.refl _,.nil⟩
 | x :: xs,_,ρ,ρ',ds,H0c,t,b,r,e => by
  cases r with
  | cons h r =>
   unfold Dm.tksk at e
   split at e
   ·cases e
   ·rename_i d ρ1 e1
    split at e
    ·cases e
    ·rename_i ds' ρ2 e2
     cases e
     rcases tkk_tk e1 with e1' | ⟨i,es,rfl,hi,hk,rfl,rfl⟩
     ·obtain ⟨H1,t1,b1,r1,o1,d1⟩ := take1 t b h e1'
      obtain ⟨H2,t2,b2,r2⟩ := takesk t1 (b.trans b1) (r.rho o1 d1) e2
      exact ⟨H2,t2,b1.trans b2,.cons (.inl (r1.mono b2)) r2⟩
     ·obtain ⟨H2,t2,b2,r2⟩ := takesk t b r e2
      obtain ⟨q,_⟩ := h
      obtain ⟨a,z,_⟩ := t.st.ow i _ hi
      rw [q] at z
      cases z
      exact ⟨H2,t2,b2,.cons (.inr ⟨i,a,es,rfl,rfl,tksk_keep hk e2 hi,hk,q⟩) r2⟩
mutual
theorem Rep.noL {k : Nat} {H H' : Hp} (hk : ∀ a o,H a = some o → H' a = some o ∨ ∃ xs,o = .lst xs ∧ ∀ ds j,Reps H xs ds → Dm.headK (.lst ds) = some j → j = k) : ∀ {v : V} {d : Dm.Dat},Rep H v d → Dm.noLk k d = true → Rep H' v d
 | _,_,.non,_ => .non
 | _,_,.bl b,_ => .bl b
 | _,_,.int i,_ => .int i
 | _,_,.str x,_ => .str x
 | _,_,.tup h r,n => .tup (by
   rcases hk _ _ h with z | ⟨_,z,_⟩
   ·exact z
   ·cases z) (Reps.noL hk r (by unfold Dm.noLk at n; exact n))
 | _,_,.lst (ds := ds) h r,n => by
   unfold Dm.noLk at n
   rw [Bool.and_eq_true] at n
   refine .lst ?_ (Reps.noL hk r n.2)
   rcases h with h | ⟨o,h⟩
   ·rcases hk _ _ h with z | ⟨_,z,kf⟩
    ·exact .inl z
    ·cases z
     obtain ⟨n1,_⟩ := n
     split at n1
     ·rename_i j e
      exact absurd (kf ds j r e) (of_decide_eq_true n1)
     ·cases n1
   ·rcases hk _ _ h with z | ⟨_,z,_⟩
    ·exact .inr ⟨o,z⟩
    ·cases z
 | _,_,.dct h e r,n => .dct (by
   rcases hk _ _ h with z | ⟨_,z,_⟩
   ·exact z
   ·cases z) e (Reps.noL hk r (by unfold Dm.noLk at n; exact n))
 | _,_,.exc h,n => .exc (by
   rcases hk _ _ h with z | ⟨_,z,_⟩
   ·exact z
   ·cases z)
 | _,_,.fn a,_ => .fn a
theorem Reps.noL {k : Nat} {H H' : Hp} (hk : ∀ a o,H a = some o → H' a = some o ∨ ∃ xs,o = .lst xs ∧ ∀ ds j,Reps H xs ds → Dm.headK (.lst ds) = some j → j = k) : ∀ {vs : List V} {ds : List Dm.Dat},Reps H vs ds → Dm.noLks k ds = true → Reps H' vs ds
 | _,_,.nil,_ => .nil
 | _,_,.cons h r,n => by
  unfold Dm.noLks at n
  rw [Bool.and_eq_true] at n
  exact .cons (Rep.noL hk h n.1) (Reps.noL hk r n.2)
end
open Classical in
theorem r_callKp {k : Nat} {σ : L2.St} {H : Hp} {Q : VK} {f : List Dm.Dat → Option Dm.RV} {fs : List Dm.FE} {E : XK} (h : tD (Dm.eFk k f fs) σ H Q) : tCall (spD f) [] E (tDA fs) σ H Q := by
 obtain ⟨H0,ρ,x,ρ',st,e,kk⟩ := h
 unfold Dm.eFk at e
 split at e
 ·cases e
 rename_i xs ρ1 e1
 split at e
 ·cases e
 rename_i ds ρ2 e2
 split at e
 ·cases e
 rename_i z fz
 split at e
 case isFalse => cases e
 rename_i hno
 injection e with e
 injection e with ea eb
 subst ea
 subst eb
 refine ⟨H0,ρ,xs,ρ1,st,e1,fun vs H1 Hb t1 r1 => ?_⟩
 dsimp only
 rw [List.append_nil]
 obtain ⟨H2,t2,b2,r2⟩ := takesk t1 (Same.refl _) r1 e2
 let B : Addr → Prop := fun b => ∃ (i : Nat) (es : List Dm.Dat),ρ2[i]? = some (.ow (.lst es)) ∧ Dm.headK (.lst es) = some k ∧ σ[i]? = some (some (.ref b))
 have hB : ∀ b,B b → H2 b = none ∧ ∃ ys es,Hb b = some (.lst ys) ∧ Reps H2 ys es ∧ Dm.headK (.lst es) = some k := fun b ⟨i,es,h1,h2,h3⟩ => by
  obtain ⟨a,q,n,ys,w,rs⟩ := t2.st.ow i _ h1
  rw [h3] at q
  cases q
  exact ⟨n,ys,es,w,rs,h2⟩
 let H2' : Hp := fun b => if B b then Hb b else H2 b
 have in' : ∀ b,B b → H2' b = Hb b := fun b h => if_pos h
 have out' : ∀ b,¬ B b → H2' b = H2 b := fun b h => if_neg h
 have s2 : Same H2 H2' := fun b o e => by
  by_cases q : B b
  ·rw [(hB b q).1] at e; cases e
  ·rw [out' b q]; exact e
 have s2b : Same H2' Hb := fun b o e => by
  by_cases q : B b
  ·rw [in' b q] at e; exact e
  ·rw [out' b q] at e; exact t2.st.same _ _ e
 have rr : ∀ {vs : List V} {ds : List Dm.Dat},RepKs k H2 σ ρ2 vs ds → Reps H2' vs ds := fun {vs ds} r => by
  induction r with
  | nil => exact .nil
  | cons h _ ih =>
   refine .cons ?_ ih
   rcases h with h | ⟨i,b,es,rfl,rfl,h1,h2,h3⟩
   ·exact h.mono s2
   ·obtain ⟨a,q,n,ys,w,rs⟩ := t2.st.ow i _ h1
    rw [h3] at q
    cases q
    exact .lst (.inl (by rw [in' _ ⟨i,es,h1,h2,h3⟩]; exact w)) (rs.mono s2)
 refine ⟨H2',ds,z,s2b,rr r2,fz,fun w H3 Hd g3 r3 => ?_⟩
 let H3' : Hp := fun b => if B b then none else H3 b
 have in3 : ∀ b,B b → H3' b = none := fun b h => if_pos h
 have out3 : ∀ b,¬ B b → H3' b = H3 b := fun b h => if_neg h
 have gr : Grow H2 Hb H3' Hd := ⟨fun b o e => by
   by_cases q : B b
   ·rw [(hB b q).1] at e; cases e
   ·rw [out3 b q]; exact g3.s0 _ _ (s2 _ _ e),g3.s1,fun b o e => by
   by_cases q : B b
   ·rw [in3 b q] at e; cases e
   ·rw [out3 b q] at e
    rcases g3.s2 b o e with y | y
    ·exact .inl y
    ·rw [out' b q] at y; exact .inr y,fun b o e => by
   by_cases q : B b
   ·rw [in3 b q] at e; cases e
   ·rw [out3 b q] at e; exact g3.s3 _ _ e⟩
 have hk : ∀ a o,H3 a = some o → H3' a = some o ∨ ∃ xs,o = .lst xs ∧ ∀ ds j,Reps H3 xs ds → Dm.headK (.lst ds) = some j → j = k := fun a o e => by
  by_cases q : B a
  ·obtain ⟨_,ys,es,y,rs,he⟩ := hB a q
   have := g3.s0 a _ ((in' a q).trans y)
   rw [e] at this
   refine .inr ⟨ys,Option.some.inj this,fun ds j r hj => kind_one r ((rs.mono s2).mono g3.s0) hj he⟩
  ·exact .inl (by rw [out3 a q]; exact e)
 have r3' : RepR Hb H3' Hd w z := by
  cases z with
  | val d => exact Rep.noL hk r3 hno
  | new d =>
   obtain ⟨a,ea,n,n0,w'⟩ := r3
   refine ⟨a,ea,n,?_,?_⟩
   ·by_cases q : B a
    ·exact in3 a q
    ·rw [out3 a q]; exact n0
   ·cases d with
    | lst ds' =>
     obtain ⟨ys,y1,y2⟩ := w'
     have hn : Dm.noLk k (.lst ds') = true := hno
     unfold Dm.noLk at hn
     rw [Bool.and_eq_true] at hn
     exact ⟨ys,y1,Reps.noL hk y2 hn.2⟩
    | dct ks ds' =>
     obtain ⟨ys,y1,y2,y3⟩ := w'
     have hn : Dm.noLk k (.dct ks ds') = true := hno
     unfold Dm.noLk at hn
     exact ⟨ys,y1,y2,Reps.noL hk y3 hn⟩
    | _ => exact w'.elim
 exact kk w H3' Hd (t2.trans (.grow t2.st gr)) ((r3'.toV t2.st).early fun a n => t2.stp.gone n)
section
variable {X : Cx} {e : Expr} {es : List Expr} {fs : List Dm.FE} {p pos : Pos}
theorem d_callKp {k : Nat} (kd : Nat) {F : Addr} {fd : FuncData} {ps : List Str} {g : List Dm.Dat → Option Dm.RV} {x : Str} (G : FnOk X.prog X.w X.K X.mg X.base CX0 k F fd ps (spD g)) (hr : Room k X.A) (hg : Gl X x) (hm : X.mg x = some (.ref F)) (hk : PySem.W.keepIn X.K (.ref F) = true) (hb : Binds X.K fd ps [])
  (ha : DA X (e :: es) fs) (hdb : (x == ("__debug__" : Str)) = false := by decide) (he : starEach (e :: es) X.env = (false, eval e X.env) :: starEach es X.env := by rfl) (hpl : (backTo pos (starEach es X.env)).any (·.1) = false := by rfl) :
  DE X (.Call (.Name x p) (e :: es) [] pos) (Dm.eFk kd g fs) := PE.weak (pe_call G hr hg hm hk hb .nil (pass0 (X := X)) ha hdb he hpl) fun _ _ _ => r_callKp
end
end Br
namespace Dm
def minI (a : Int) : List Int → Int
 | [] => a
 | x :: r => minI (if x < a then x else a) r
def gMinL : List Dat → Option RV
 | [.lst xs] => (match intsD xs with
  | some (n :: ns) => vI (minI n ns)
  | _ => none)
 | _ => none
end Dm
namespace Br
open PySem PySem.Spec PyProof.Rows L2
theorem minI_app (a x : Int) (l : List Int) : Dm.minI a (l ++ [x]) = if x < Dm.minI a l then x else Dm.minI a l := by
 induction l generalizing a with
 | nil => rfl
 | cons y l ih => rw [List.cons_append,Dm.minI,ih,Dm.minI]
theorem best_min (n0 : Int) (ns : List Int) : ∀ k,k ≤ ns.length → (n0 :: ns).getD (argBest (fun i j => decide ((n0 :: ns).getD i 0 < (n0 :: ns).getD j 0)) k) 0 = Dm.minI n0 (ns.take k)
 | 0,_ => rfl
 | k + 1,h => by
  have ih := best_min n0 ns k (by omega)
  have e : argBest (fun i j => decide ((n0 :: ns).getD i 0 < (n0 :: ns).getD j 0)) (k + 1) = if decide ((n0 :: ns).getD (k + 1) 0 < (n0 :: ns).getD (argBest (fun i j => decide ((n0 :: ns).getD i 0 < (n0 :: ns).getD j 0)) k) 0) then k + 1 else argBest (fun i j => decide ((n0 :: ns).getD i 0 < (n0 :: ns).getD j 0)) k := rfl
  have ek : (n0 :: ns).getD (k + 1) 0 = ns[k]'(by omega) := by
   rw [List.getD_eq_getElem?_getD,List.getElem?_cons_succ,List.getElem?_eq_getElem (by omega)]; rfl
  rw [e,ih,ek,List.take_succ_eq_append_getElem (by omega),minI_app]
  by_cases c : ns[k]'(by omega) < Dm.minI n0 (ns.take k)
  ·rw [decide_eq_true c,if_pos rfl,if_pos c,ek]
  ·rw [decide_eq_false c,if_neg (by decide),if_neg c,ih]
section
variable {X : Cx}
theorem call_minL (hc : X.calm = true) : CallR X (.builtin "min") (fun xs H Q => ∃ (a : Addr) (n : Int) (ns : List Int), xs = [.ref a] ∧ Rd H a (.lst ((n :: ns).map V.int)) ∧ Q (.int (Dm.minI n ns)) H) := by
 intro pins s σ H xs us Q I r h
 obtain ⟨a,n0,ns,rfl,hq,q⟩ := h
 obtain ⟨u,rfl,rx⟩ := vals1 r
 cases rx
 obtain ⟨z,its,n,rv,e⟩ := hq.ok I.hok
 have hl : s.heap.IsList a its.toArray := ⟨_,e,rfl,_,rfl⟩
 have hlen := rv.length
 rw [List.length_map] at hlen
 have hax : a ≠ s.heap.objs.size := Nat.ne_of_lt (Heap.lt_size e)
 have e1 : its.toArray.size = ns.length + 1 := by rw [List.size_toArray,← hlen]; rfl
 refine PySem.call_min_walk (wpAny_pyIter_list hl ⟨s.heap.objs.size,_,_,_,_,_,_,rfl,Walks.list (A := X.A.in1) (I.ok.hd hc) s.heap.objs.size a hax its.toArray,⟨⟨_,Heap.get?_push_size _ rfl,rfl,rfl⟩,hl.push _⟩,?_,by rw [e1]; exact Nat.succ_pos _,CmpOf.ints_lt (fun i => (n0 :: ns).getD i 0) (ints_at rv),fun v h' tk hp hk => ?_⟩)
 ·intro b hb
  simp only [List.mem_cons,List.not_mem_nil,or_false] at hb
  rcases hb with rfl | rfl
  ·show s.heap.objs.size < _; exact Heap.size_push .. ▸ Nat.lt_succ_self _
  ·show b < _; exact Heap.size_push .. ▸ Nat.lt_succ_of_lt (Heap.lt_size e)
 ·obtain ⟨t',rfl⟩ := ints_at rv _ _ hp
  refine ⟨.int (Dm.minI n0 ns),H,I.kept (t' := tk) fun b o eb => hk b o ?_ (Heap.get?_push_of_some _ eb),⟨t',?_⟩,q⟩
  ·intro hm
   have : b = s.heap.objs.size := by simpa using hm
   exact absurd (Heap.lt_size eb) (by rw [this]; exact Nat.lt_irrefl _)
  ·rw [e1,Nat.add_sub_cancel,best_min n0 ns _ (Nat.le_refl _),List.take_length]
theorem cd_minL : CallD (fun xs H Q => ∃ (a : Addr) (n : Int) (ns : List Int),xs = [.ref a] ∧ Rd H a (.lst ((n :: ns).map V.int)) ∧ Q (.int (Dm.minI n ns)) H) Dm.gMinL := by
 intro H0 H vs ds z Q s rs e k
 unfold Dm.gMinL at e
 split at e
 ·split at e
  ·rename_i n ns hb
   cases e
   cases rs with
   | cons r rr =>
    cases rr
    obtain ⟨a,us,rfl,qa,ra⟩ := repO_lst s r
    have := reps_intsD ra hb
    subst this
    exact ⟨a,n,ns,rfl,qa,k _ H0 H (Grow.refl s) (.int _)⟩
  ·cases e
 ·cases e
end
section
variable {X : Cx} {e : Expr} {fs : List Dm.FE} {p pos : Pos}
theorem d_minL (hc : X.calm = true) (hg : Gl X "min") (hm : X.mg "min" = none) (ha : DA X [e] fs) (he : starEach [e] X.env = [(false, eval e X.env)] := by rfl) (hpl : (backTo pos (starEach [] X.env)).any (·.1) = false := by rfl) : DE X (.Call (.Name "min" p) [e] [] pos) (Dm.eB Dm.gMinL fs) := d_bf (call_minL hc) cd_minL (by rfl) hg hm ha (he := he) (hpl := hpl)
end
end Br
namespace Dm
def gTuR2 : List Dat → Option RV
 | [.int i,.int j] => if (j ≤ 1000000 ∧ -1000000 ≤ j) ∧ i ≤ 1000000 ∧ -1000000 ≤ i then some (.val (.tup (ups i (j - i).toNat))) else none
 | _ => none
end Dm
namespace Br
open PySem PySem.Spec PyProof.Rows L2
def rUps (i : Int) (n : Nat) : List V := (List.range n).map fun k => V.int (i + (k : Nat))
theorem reps_up2 {H : Hp} (i : Int) (n : Nat) : Reps H (rUps i n) (Dm.ups i n) := by
 unfold Dm.ups rUps
 have : ∀ l : List Nat,Reps H (l.map fun k => V.int (i + (k : Nat))) (l.map fun k => Dm.Dat.int (i + (k : Nat))) := fun l => by
  induction l with
  | nil => exact .nil
  | cons x l ih => exact .cons (.int _) ih
 exact this _
def tTuR2 (ta : TA) : TE := fun σ H Q => ta σ H fun vs H1 => ∃ i j : Int,vs = [.int i,.int j] ∧ ((-(2 ^ 62) ≤ j ∧ j ≤ 1000000) ∧ -1000000 ≤ i ∧ i ≤ 1000000) ∧ ∀ q,H1 q = none → Q (.ref q) (upd H1 q (.tup (rUps i (j - i).toNat)))
section
variable {X : Cx} {l a b : Expr} {tl : TE} {ta : TA} {fa fb : Dm.FE} {p pos p0 pos0 : Pos}
theorem pe_tuR2 (hc : X.calm = true) (hgl : Gl X "tuple") (hml : X.mg "tuple" = none) (hg : Gl X "range") (hm : X.mg "range" = none) (ha : PA X [a, b] ta) (hs : starEach [a, b] X.env = [(false, eval a X.env), (false, eval b X.env)] := by rfl) (hs2 : starEach [b] X.env = [(false, eval b X.env)] := by rfl)
  (hs0 : starEach [.Call (.Name "range" p) [a, b] [] pos] X.env = [(false, eval (.Call (.Name "range" p) [a, b] [] pos) X.env)] := by rfl) :
  PE X (.Call (.Name "tuple" p0) [.Call (.Name "range" p) [a, b] [] pos] [] pos0) (tTuR2 ta) := by
 intro pins s σ H Q I h
 refine wpAny_Call_Name_kw (ld_blt I hgl hml (by rfl) (PyProof.Rows.callWith_type1 (spliced_more ?_ (by rw [hs0]; rfl)) (by rw [hs0]; rfl) rfl))
 refine Call_ (ld_blt I hg hm boot_range (PyProof.Rows.callWith_type1 (thn (ha pos pins s σ H _ I h) fun us s1 ⟨vs,H1,I1,r1,q1⟩ => ?_) (by rw [hs,hs2]) (by rw [hs2]; rfl)))
 obtain ⟨i,j,e,⟨⟨q1,q2⟩,q3,q4⟩,q⟩ := q1
 subst e
 cases r1 with
 | cons r rr =>
  cases rr with
  | cons r' rr =>
  cases rr
  obtain ⟨t,rfl⟩ := r
  obtain ⟨t',rfl⟩ := r'
  refine call_range_2 (Calls.spliced_nil ?_)
  have hn : Builtin.Range.rangeSize i j 1 = ((j - i).toNat : Nat) := by rw [rangeSize_one]; split <;> omega
  have hsl : (j - i).toNat ≤ sizeLine := by rw [sizeLine_eq]; omega
  refine call_tuple_range (n := (j - i).toNat) (I.ok.hd hc) (IsRange.new ..) (small_one (by omega) (by omega) q1 (by omega)) hn (by omega) hsl fun h' tk acc hk hacc => ?_
  have hlt : s1.heap.objs.size < h'.objs.size := Heap.lt_size (hk _ _ (IsRange.new ..))
  have vl : Vals (rUps i (j - i).toNat) acc.toList := by
   unfold rUps
   refine items_vals (by rw [List.length_map,List.length_range]; exact hacc) fun k v hv hi => ?_
   obtain ⟨t,rfl⟩ := hv
   rw [List.length_map,List.length_range] at hi
   refine ⟨.int (i + (k : Nat)),by rw [List.getElem?_map,List.getElem?_range hi]; rfl,t,?_⟩
   have : i + (k : Int) * 1 = i + k := by omega
   rw [this]
  have ok : ObjOk X.prog X.w (upd H1 h'.objs.size (.tup (rUps i (j - i).toNat))) (h'.push { cls := .type "tuple", data := .seq acc }) h'.objs.size (.tup (rUps i (j - i).toNat)) :=
   ⟨by unfold rUps; rw [List.length_map,List.length_range]; exact hsl,acc.toList,vl,by rw [Array.toArray_toList]; exact ⟨_,Heap.get?_push_size _ rfl,rfl,_,rfl⟩⟩
  exact ⟨.ref _,_,I1.laid (t' := tk) (fun b u e => Heap.get?_push_of_some _ (hk b u (Heap.get?_push_of_some _ e))) (Nat.le_of_lt hlt) ok,rfl,q _ (I1.hok.fresh (Nat.le_of_lt hlt))⟩
theorem cd_tuR2 : CallD (fun xs H Q => ∃ i j : Int,xs = [.int i,.int j] ∧ ((-(2 ^ 62) ≤ j ∧ j ≤ 1000000) ∧ -1000000 ≤ i ∧ i ≤ 1000000) ∧ ∀ q,H q = none → Q (.ref q) (upd H q (.tup (rUps i (j - i).toNat)))) Dm.gTuR2 := by
 intro H0 H xs ds z Q s rx e k
 unfold Dm.gTuR2 at e
 split at e
 ·rename_i i j
  split at e
  ·rename_i hb
   cases e
   cases rx with
   | cons r rr =>
    cases rr with
    | cons r' rr =>
    cases rr
    cases repO_int r
    cases repO_int r'
    refine ⟨i,j,rfl,by omega,fun p hp => ?_⟩
    have g := Grow.newS (o := HO.tup (rUps i (j - i).toNat)) s hp
    exact k _ _ _ g (.tup upd_same (reps_up2 _ _))
  ·cases e
 ·cases e
theorem d_tuR2 (hc : X.calm = true) (hgl : Gl X "tuple") (hml : X.mg "tuple" = none) (hg : Gl X "range") (hm : X.mg "range" = none) (h : DA X [a, b] [fa, fb]) (hs : starEach [a, b] X.env = [(false, eval a X.env), (false, eval b X.env)] := by rfl) (hs2 : starEach [b] X.env = [(false, eval b X.env)] := by rfl)
  (hs0 : starEach [.Call (.Name "range" p) [a, b] [] pos] X.env = [(false, eval (.Call (.Name "range" p) [a, b] [] pos) X.env)] := by rfl) :
  DE X (.Call (.Name "tuple" p0) [.Call (.Name "range" p) [a, b] [] pos] [] pos0) (Dm.eB Dm.gTuR2 [fa, fb]) := PE.weak (pe_tuR2 hc hgl hml hg hm h hs hs2 hs0) fun _ _ _ => r_cb cd_tuR2
end
end Br
namespace Dm
end Dm
namespace Br
open PySem PySem.Spec PyProof.Rows L2
section
variable {prog : Program} {w : World} {A : Around} {E : Value → Shared → Prop} {s : Shared}
end
section
variable {prog : Program} {w : World} {A : Around} {s : Shared}
end
section
variable {X : Cx}
end
section
variable {X : Cx} {e : Expr} {fs : List Dm.FE} {p pos : Pos} {k : Nat}
end
end Br
namespace Dm
end Dm
namespace Br
open PySem PySem.Spec PyProof.Rows L2
section
variable {X : Cx} {tg c e : Expr} {bd : Dm.FB} {is : List Nat} {t : Dm.FT} {f : Dm.FE} {x : Str} {px rp ip pos : Pos}
end
end Br
namespace Dm
end Dm
namespace Br
open PySem PySem.Spec PyProof.Rows L2
section
variable {X : Cx}
end
section
variable {X : Cx} {e : Expr} {fs : List Dm.FE} {p pos : Pos}
end
end Br
namespace Dm
end Dm
namespace Br
open PySem PySem.Spec PyProof.Rows L2
section
variable {X : Cx} {a b c : Expr} {fa fb fc : Dm.FE} {apos cpos : Pos} {k : Nat}
end
end Br
namespace Dk
open PySem PyProof.Rows
open Sem (wp)
section
variable {prog : Program} {w : World} {A : Around} {E : Value → Shared → Prop} {s : Shared}
end
section
variable {prog : Program} {w : World} {K : Type} [DecidableEq K] {knd : PySem.KeyKind prog w K} {A : Around} {E : Value → Shared → Prop} {s : Shared}
end
end Dk
namespace Dm
end Dm
namespace Br
open PySem PySem.Spec PyProof.Rows L2
section
variable {X : Cx} {e : Expr} {fs : List Dm.FE} {p pos : Pos}
end
end Br
namespace Dm
inductive Dp where
 | s (d : Dat)
 | l (xs : List Dp)
 | t (xs : List Dp)
mutual
def Dp.dat : Dp → Dat
 | .s d => d
 | .l xs => .lst (Dp.dats xs)
 | .t xs => .tup (Dp.dats xs)
def Dp.dats : List Dp → List Dat
 | [] => []
 | x :: r => x.dat :: Dp.dats r
end
theorem Dp.dats_map : ∀ xs : List Dp,Dp.dats xs = xs.map Dp.dat
 | [] => rfl
 | x :: r => by rw [Dp.dats,Dp.dats_map r]; rfl
theorem Dp.dats_s (ds : List Dat) : Dp.dats (ds.map Dp.s) = ds := by
 rw [Dp.dats_map,List.map_map]
 exact (List.map_congr_left fun d _ => rfl).trans (List.map_id ds)
abbrev FP := Env → Option (Dp × Env)
def pO (f : FE) : FP := fun ρ => match f ρ with
 | some (.val d,ρ1) => some (.s d,ρ1)
 | some (.new (.lst ds),ρ1) => some (.l (ds.map .s),ρ1)
 | some (.slot i,ρ1) => (match ρ1[i]? with
  | some (.ow (.lst ds)) => some (.l (ds.map .s),ρ1.set i .un)
  | some (.sh d) => some (.s d,ρ1)
  | _ => none)
 | _ => none
def pAs : List FP → Env → Option (List Dp × Env)
 | [],ρ => some ([],ρ)
 | f :: r,ρ => match f ρ with
  | none => none
  | some (x,ρ1) => match pAs r ρ1 with
   | none => none
   | some (xs,ρ2) => some (x :: xs,ρ2)
def pT (fs : List FP) : FP := fun ρ => match pAs fs ρ with
 | none => none
 | some (ps,ρ1) => if ps.length ≤ SZ then some (.t ps,ρ1) else none
abbrev FSP := Env → Option Dp
def qR (f : FP) : FSP := fun ρ => match f ρ with
 | none => none
 | some (p,_) => some p
def qSeq (s : FS) (g : FSP) : FSP := fun ρ => match s ρ with
 | some (.nx ρ1) => g ρ1
 | _ => none
def fnP (n m : Nat) (g : FSP) (ds : List Dat) : Option Dp := if ds.length = n then g (ds.map Cell.sh ++ List.replicate m .un) else none
def shC : Cell → Cell
 | .ow d => .sh d
 | c => c
def shAll (ρ : Env) : Env := ρ.map shC
abbrev FM := Env → Dp → Option Out
def see (j : Nat) (ρ : Env) (p : Dp) : Env := shAll (ρ.set j (.sh p.dat))
def mIf (j : Nat) (t : FT) (fs : FS) (g : FM) : FM := fun ρ p => match t (see j ρ p) with
 | none => none
 | some (true,_) => (match fs ρ with
  | some (.nx _) => none
  | o => o)
 | some (false,_) => g ρ p
def mClr (z : Int) (gs : FS) : FM := fun ρ p => match p with
 | .t xs => (match ixN xs.length z with
  | none => none
  | some m => (match xs[m]? with
   | some (.l _) => gs ρ
   | _ => none))
 | _ => none
def mEnd (gs : FS) : FM := fun ρ _ => gs ρ
end Dm
namespace Br
open PySem PySem.Spec PyProof.Rows L2
mutual
inductive RepP (N : Addr → Prop) (H0 H : Hp) : V → Dm.Dp → List Addr → Prop
 | s {v : V} {d : Dm.Dat} : Rep H0 v d → RepP N H0 H v (.s d) []
 | l {a : Addr} {vs : List V} {ps : List Dm.Dp} {fp : List Addr} : N a → H a = some (.lst vs) → RepPs N H0 H vs ps fp → RepP N H0 H (.ref a) (.l ps) (a :: fp)
 | t {a : Addr} {vs : List V} {ps : List Dm.Dp} {fp : List Addr} : N a → H a = some (.tup vs) → RepPs N H0 H vs ps fp → RepP N H0 H (.ref a) (.t ps) fp
inductive RepPs (N : Addr → Prop) (H0 H : Hp) : List V → List Dm.Dp → List Addr → Prop
 | nil : RepPs N H0 H [] [] []
 | cons {v : V} {p : Dm.Dp} {f : List Addr} {vs : List V} {ps : List Dm.Dp} {fp : List Addr} : RepP N H0 H v p f → RepPs N H0 H vs ps fp → RepPs N H0 H (v :: vs) (p :: ps) (f ++ fp)
end
section
variable {N N' : Addr → Prop} {H0 H H0' H' : Hp}
mutual
theorem RepP.mono (s : Same H0 H0') (kn : ∀ a,N a → N' a) (kt : ∀ a vs,N a → H a = some (.tup vs) → H' a = some (.tup vs)) : ∀ {v : V} {p : Dm.Dp} {fp : List Addr},RepP N H0 H v p fp → (∀ a ∈ fp,H' a = H a) → RepP N' H0' H' v p fp
 | _,_,_,.s r,_ => .s (r.mono s)
 | _,_,_,.l n h r,k => .l (kn _ n) ((k _ List.mem_cons_self).trans h) (RepPs.mono s kn kt r fun b hb => k b (List.mem_cons_of_mem _ hb))
 | _,_,_,.t n h r,k => .t (kn _ n) (kt _ _ n h) (RepPs.mono s kn kt r k)
theorem RepPs.mono (s : Same H0 H0') (kn : ∀ a,N a → N' a) (kt : ∀ a vs,N a → H a = some (.tup vs) → H' a = some (.tup vs)) : ∀ {vs : List V} {ps : List Dm.Dp} {fp : List Addr},RepPs N H0 H vs ps fp → (∀ a ∈ fp,H' a = H a) → RepPs N' H0' H' vs ps fp
 | _,_,_,.nil,_ => .nil
 | _,_,_,.cons h r,k => .cons (RepP.mono s kn kt h fun a ha => k a (List.mem_append_left _ ha)) (RepPs.mono s kn kt r fun a ha => k a (List.mem_append_right _ ha))
end
mutual
theorem RepP.fpN : ∀ {v : V} {p : Dm.Dp} {fp : List Addr},RepP N H0 H v p fp → ∀ a ∈ fp,N a ∧ ∃ xs,H a = some (.lst xs)
 | _,_,_,.s _,_,h => by cases h
 | _,_,_,.l n h r,a,ha => by
  rcases List.mem_cons.mp ha with rfl | ha
  ·exact ⟨n,_,h⟩
  ·exact RepPs.fpN r a ha
 | _,_,_,.t n h r,a,ha => RepPs.fpN r a ha
theorem RepPs.fpN : ∀ {vs : List V} {ps : List Dm.Dp} {fp : List Addr},RepPs N H0 H vs ps fp → ∀ a ∈ fp,N a ∧ ∃ xs,H a = some (.lst xs)
 | _,_,_,.nil,_,h => by cases h
 | _,_,_,.cons h r,a,ha => (List.mem_append.mp ha).elim (RepP.fpN h a) (RepPs.fpN r a)
end
mutual
theorem RepP.rep (s : Same H0 H0') (k : ∀ a o,N a → H a = some o → H0' a = some o) : ∀ {v : V} {p : Dm.Dp} {fp : List Addr},RepP N H0 H v p fp → Rep H0' v p.dat
 | _,_,_,.s r => r.mono s
 | _,_,_,.l n h r => .lst (.inl (k _ _ n h)) (RepPs.rep s k r)
 | _,_,_,.t n h r => .tup (k _ _ n h) (RepPs.rep s k r)
theorem RepPs.rep (s : Same H0 H0') (k : ∀ a o,N a → H a = some o → H0' a = some o) : ∀ {vs : List V} {ps : List Dm.Dp} {fp : List Addr},RepPs N H0 H vs ps fp → Reps H0' vs (Dm.Dp.dats ps)
 | _,_,_,.nil => .nil
 | _,_,_,.cons h r => .cons (RepP.rep s k h) (RepPs.rep s k r)
end
theorem RepPs.of_reps : ∀ {vs : List V} {ds : List Dm.Dat},Reps H0 vs ds → RepPs N H0 H vs (ds.map .s) []
 | _,_,.nil => .nil
 | _,_,.cons h r => .cons (.s h) (RepPs.of_reps r)
theorem RepPs.get : ∀ {vs : List V} {ps : List Dm.Dp} {fp : List Addr} {i : Nat} {p : Dm.Dp},RepPs N H0 H vs ps fp → ps[i]? = some p → ∃ v f,vs[i]? = some v ∧ RepP N H0 H v p f ∧ ∀ a ∈ f,a ∈ fp
 | _,_,_,_,_,.nil,e => by simp at e
 | _,_,_,0,_,.cons h _,e => by simp at e; subst e; exact ⟨_,_,rfl,h,fun a ha => List.mem_append_left _ ha⟩
 | _,_,_,i + 1,_,.cons _ r,e => by
  obtain ⟨v,f,h1,h2,h3⟩ := RepPs.get (i := i) r (by simpa using e)
  exact ⟨v,f,by simpa using h1,h2,fun a ha => List.mem_append_right _ (h3 a ha)⟩
theorem RepPs.length : ∀ {vs : List V} {ps : List Dm.Dp} {fp : List Addr},RepPs N H0 H vs ps fp → vs.length = ps.length
 | _,_,_,.nil => rfl
 | _,_,_,.cons _ r => by rw [List.length_cons,List.length_cons,RepPs.length r]
end
theorem RepSt.tupNot {H0 H : Hp} {σ : L2.St} {ρ : Dm.Env} {a : Addr} {vs : List V} (st : RepSt H0 H σ ρ) (h : H a = some (.tup vs)) : ¬ Owned σ ρ a := fun ⟨i,d,h1,h2⟩ => by
 obtain ⟨b,q,n,w⟩ := st.ow i d h1
 rw [h2] at q
 cases q
 cases d with
 | lst ds => obtain ⟨xs,y,_⟩ := w; rw [h] at y; cases y
 | dct ks ds => obtain ⟨xs,y,_⟩ := w; rw [h] at y; cases y
 | _ => exact w
theorem RepP.est {N : Addr → Prop} {σ : L2.St} {ρ ρ' : Dm.Env} {H0 H H0' H' : Hp} {v : V} {p : Dm.Dp} {fp : List Addr} (st : RepSt H0 H σ ρ) (t : ESt σ ρ H0 H ρ' H0' H') (r : RepP N H0 H v p fp) (k : ∀ a ∈ fp,H0 a = none ∧ ¬ Owned σ ρ a) :
  RepP N H0' H' v p fp ∧ ∀ a ∈ fp,H0' a = none ∧ ¬ Owned σ ρ' a := by
 refine ⟨r.mono t.stp.s0 (fun _ n => n) (fun a vs _ h => t.stp.s1 a _ h (st.tupNot h)) fun a ha => ?_,fun a ha => ?_⟩
 ·obtain ⟨_,xs,h⟩ := r.fpN a ha
  rw [(t.stay0 h (k a ha).1 (k a ha).2).1,h]
 ·obtain ⟨_,xs,h⟩ := r.fpN a ha
  exact (t.stay0 h (k a ha).1 (k a ha).2).2
def NewE (σ : L2.St) (ρ : Dm.Env) (H : Hp) (a : Addr) : Prop := H a = none ∨ Owned σ ρ a
def Free (σ : L2.St) (ρ : Dm.Env) (H0 : Hp) (fp : List Addr) : Prop := fp.Nodup ∧ ∀ a ∈ fp,H0 a = none ∧ ¬ Owned σ ρ a
def tDp (f : Dm.FP) : TE := fun σ H Q => ∃ H0 ρ p ρ',RepSt H0 H σ ρ ∧ f ρ = some (p,ρ') ∧ ∀ v H0' H' fp,ESt σ ρ H0 H ρ' H0' H' → RepP (NewE σ ρ H) H0' H' v p fp → Free σ ρ' H0' fp → Q v H'
def tDpA (fs : List Dm.FP) : TA := fun σ H Q => ∃ H0 ρ ps ρ',RepSt H0 H σ ρ ∧ Dm.pAs fs ρ = some (ps,ρ') ∧ ∀ vs H0' H' fp,ESt σ ρ H0 H ρ' H0' H' → RepPs (NewE σ ρ H) H0' H' vs ps fp → Free σ ρ' H0' fp → Q vs H'
abbrev DP (X : Cx) (e : Expr) (f : Dm.FP) : Prop := PE X e (tDp f)
abbrev DPA (X : Cx) (es : List Expr) (fs : List Dm.FP) : Prop := PA X es (tDpA fs)
section
variable {σ : L2.St} {H : Hp} {Q : VK}
theorem r_pO {f : Dm.FE} (h : tDp (Dm.pO f) σ H Q) : tD f σ H Q := by
 obtain ⟨H0,ρ,p,ρ',st,e,k⟩ := h
 unfold Dm.pO at e
 split at e
 ·rename_i d ρ1 e1
  cases e
  exact ⟨H0,ρ,_,_,st,e1,fun v H0' H' t r => k v H0' H' [] t (.s r) ⟨List.nodup_nil,fun a h => by cases h⟩⟩
 ·rename_i ds ρ1 e1
  cases e
  refine ⟨H0,ρ,_,_,st,e1,fun v H0' H' t r => ?_⟩
  obtain ⟨a,rfl,n,no,n0,xs,y,rs⟩ := r
  refine k _ H0' H' [a] t (.l (.inl n) y (.of_reps rs)) ⟨by simp,fun b hb => ?_⟩
  rw [List.mem_singleton.mp hb]
  exact ⟨n0,no⟩
 ·rename_i i ρ1 e1
  split at e
  ·rename_i ds h1
   cases e
   refine ⟨H0,ρ,_,_,st,e1,fun v H0' H' t r => ?_⟩
   obtain ⟨q,_⟩ := r
   obtain ⟨a,q',n0,xs,y,rs⟩ := t.st.ow i _ h1
   rw [q] at q'
   cases q'
   have ow : Owned σ ρ1 a := ⟨i,_,h1,q⟩
   refine k _ H0' H' [a] ⟨t.st.mask i,t.stp,fun b z => ?_,fun j z => trivial⟩ (.l (.inr (t.own a ow)) y (.of_reps rs)) ⟨by simp,fun b hb => ?_⟩
   ·obtain ⟨j,d2,_,z1,z2⟩ := owned_mask z
    exact t.own b ⟨j,d2,z1,z2⟩
   ·rw [List.mem_singleton.mp hb]
    refine ⟨n0,fun z => ?_⟩
    obtain ⟨j,d2,hj,z1,z2⟩ := owned_mask z
    exact hj (t.st.dis j i d2 _ a z1 h1 z2 q)
  ·rename_i d h1
   cases e
   refine ⟨H0,ρ,_,_,st,e1,fun v H0' H' t r => ?_⟩
   obtain ⟨q,_⟩ := r
   obtain ⟨u,q',w⟩ := t.st.sh i d h1
   rw [q] at q'
   cases q'
   exact k _ H0' H' [] t (.s w) ⟨List.nodup_nil,fun a h => by cases h⟩
  ·cases e
 ·cases e
theorem r_pnil {Q : List V → Hp → Prop} (h : tDpA [] σ H Q) : tNil σ H Q := by
 obtain ⟨H0,ρ,xs,ρ',st,e,k⟩ := h
 cases e
 exact k [] H0 H [] (.refl st) .nil ⟨List.nodup_nil,fun a h => by cases h⟩
theorem NewE.back {σ : L2.St} {ρ ρ1 : Dm.Env} {H0 H H1 Hb : Hp} (t : ESt σ ρ H0 H ρ1 H1 Hb) {a : Addr} (n : NewE σ ρ1 Hb a) : NewE σ ρ H a := n.elim (fun z => .inl (t.stp.gone z)) fun z => .inr (t.own a z)
theorem Free.app {σ : L2.St} {ρ1 ρ2 : Dm.Env} {H1 Hb H2 Hc : Hp} {f fp : List Addr} (hf : f.Nodup) (h1 : ∀ a ∈ f,(∃ o,Hb a = some o) ∧ ¬ Owned σ ρ1 a) (h2 : ∀ a ∈ f,H2 a = none ∧ ¬ Owned σ ρ2 a) (g : Free σ ρ2 H2 fp) (gn : ∀ a ∈ fp,NewE σ ρ1 Hb a) : Free σ ρ2 H2 (f ++ fp) := by
 refine ⟨List.nodup_append.mpr ⟨hf,g.1,fun a ha b hb z => ?_⟩,fun a ha => (List.mem_append.mp ha).elim (h2 a) (g.2 a)⟩
 subst z
 obtain ⟨⟨o,q1⟩,q2⟩ := h1 a ha
 rcases gn a hb with z | z
 ·rw [q1] at z; cases z
 ·exact q2 z
theorem r_pcons {f : Dm.FP} {fs : List Dm.FP} {Q : List V → Hp → Prop} (h : tDpA (f :: fs) σ H Q) : tCons (tDp f) (tDpA fs) σ H Q := by
 obtain ⟨H0,ρ,xs,ρ',st,e,k⟩ := h
 unfold Dm.pAs at e
 split at e
 ·cases e
 rename_i x1 ρ1 e1
 split at e
 ·cases e
 rename_i xs1 ρ2 e2
 cases e
 refine ⟨H0,ρ,x1,ρ1,st,e1,fun v H1 Hb f1 t1 r1 g1 => ⟨H1,ρ1,xs1,_,t1.st,e2,fun vs H2 Hc f2 t2 r2 g2 => ?_⟩⟩
 obtain ⟨m1,m2⟩ := r1.est t1.st t2 g1.2
 refine k (v :: vs) H2 Hc (f1 ++ f2) (t1.trans t2) (.cons m1 (r2.mono (Same.refl _) (fun a n => NewE.back t1 n) (fun _ _ _ h => h) fun _ _ => rfl)) (Free.app (H1 := H1) (Hc := Hc) g1.1 (fun a ha => ⟨?_,(g1.2 a ha).2⟩) m2 g2 fun a ha => (r2.fpN a ha).1)
 obtain ⟨_,ys,h⟩ := r1.fpN a ha
 exact ⟨_,h⟩
theorem r_ptup {fs : List Dm.FP} (h : tDp (Dm.pT fs) σ H Q) : tTup (tDpA fs) σ H Q := by
 obtain ⟨H0,ρ,x,ρ',st,e,k⟩ := h
 unfold Dm.pT at e
 split at e
 ·cases e
 rename_i ps ρ1 e1
 split at e
 case isFalse => cases e
 rename_i hz
 cases e
 refine ⟨H0,ρ,ps,_,st,e1,fun vs H1 Hb fp t1 r1 g1 => ⟨by rw [r1.length]; exact sz_line hz,fun a ha => ?_⟩⟩
 have g := Grow.newO (o := HO.tup vs) t1.st.same ha
 have t2 := ESt.grow t1.st g
 refine k _ H1 _ fp (t1.trans t2) (.t (.inl (t1.stp.gone ha)) upd_same (r1.mono g.s0 (fun _ n => n) (fun b us _ h => g.s1 b _ h) fun b hb => ?_)) g1
 obtain ⟨_,xs,h⟩ := r1.fpN b hb
 rw [g.s1 b _ h,h]
end
section
variable {X : Cx} {e : Expr} {es : List Expr} {f : Dm.FE} {fp : Dm.FP} {fps : List Dm.FP} {pos : Pos}
theorem p_o (h : DE X e f) : DP X e (Dm.pO f) := PE.weak h fun _ _ _ => r_pO
theorem pa_n : DPA X [] [] := PA.weak pa_nil fun _ _ _ => r_pnil
theorem pa_c (h : DP X e fp) (r : DPA X es fps) (hs : starEach (e :: es) X.env = (false,eval e X.env) :: starEach es X.env := by rfl) : DPA X (e :: es) (fp :: fps) := PA.weak (pa_cons h r hs) fun _ _ _ => r_pcons
theorem p_tup {x1} (h : DPA X es fps) : DP X (.Tuple es x1 pos) (Dm.pT fps) := PE.weak (pe_tup h) fun _ _ _ => r_ptup
end
def spP (f : List Dm.Dat → Option Dm.Dp) : Sp := fun vs H Q _ => ∃ H0 ds p,Same H0 H ∧ Reps H0 vs ds ∧ f ds = some p ∧ ∀ v H0' H' fp,Grow H0 H H0' H' → RepP (fun a => H a = none) H0' H' v p fp → fp.Nodup → (∀ a ∈ fp,H0' a = none) → Q v H'
def tDP (g : Dm.FSP) : TS := fun D σ H => ∃ H0 ρ p,RepSt H0 H σ ρ ∧ g ρ = some p ∧ ∀ σ' ρ' v H0' H' fp,SSt σ ρ H0 H σ' ρ' H0' H' → RepP (NewE σ ρ H) H0' H' v p fp → fp.Nodup → (∀ a ∈ fp,H0' a = none) → D.rt v H'
abbrev DQs (X : Cx) (st : List Stmt) (g : Dm.FSP) : Prop := PSs X st (tDP g)
section
variable {D : Ends} {σ : L2.St} {H : Hp}
theorem r_qR {f : Dm.FP} (h : tDP (Dm.qR f) D σ H) : tRet (tDp f) D σ H := by
 obtain ⟨H0,ρ,p,st,e,k⟩ := h
 unfold Dm.qR at e
 split at e
 ·cases e
 rename_i p' ρ1 e1
 cases e
 exact ⟨H0,ρ,_,ρ1,st,e1,fun v H0' H' fp t r g => k σ ρ1 v H0' H' fp t.sst r g.1 fun a ha => (g.2 a ha).1⟩
theorem r_qSeq {s : Dm.FS} {g : Dm.FSP} (h : tDP (Dm.qSeq s g) D σ H) : tSeq (tDS s) (tDP g) D σ H := by
 obtain ⟨H0,ρ,p,st,e,k⟩ := h
 unfold Dm.qSeq at e
 split at e
 case h_2 => cases e
 rename_i ρ1 e1
 refine ⟨H0,ρ,_,st,e1,fun σ1 H1 Hb t1 => ⟨H1,ρ1,p,t1.st,e,fun σ2 ρ2 v H2 Hc fp t2 r nd n => k σ2 ρ2 v H2 Hc fp (t1.trans t2) ?_ nd n⟩⟩
 exact r.mono (Same.refl _) (fun a z => z.elim (fun z => .inl (t1.stp.gone z)) fun z => (t1.own a z).elim .inr .inl) (fun _ _ _ h => h) fun _ _ => rfl
theorem start_un {ds : List Dm.Dat} {m i : Nat} {c : Dm.Cell} (h : (ds.map Dm.Cell.sh ++ List.replicate m .un)[i]? = some c) : (∃ d,c = .sh d ∧ ds[i]? = some d) ∨ c = .un := by
 by_cases hi : i < ds.length
 ·rw [List.getElem?_append_left (by simpa using hi),List.getElem?_map] at h
  cases q : ds[i]? with
  | none => rw [q] at h; cases h
  | some y => rw [q] at h; cases h; exact .inl ⟨y,rfl,rfl⟩
 ·rw [List.getElem?_append_right (by simpa using hi),List.getElem?_replicate] at h
  split at h <;> cases h
  exact .inr rfl
theorem start_st {N : List Str} {n m : Nat} {vs : List V} {ds : List Dm.Dat} {H0 H : Hp} (hm : N.length = n + m) (hn : ds.length = n) (s : Same H0 H) (rs : Reps H0 vs ds) :
  RepSt H0 H (start N vs) (ds.map Dm.Cell.sh ++ List.replicate m .un) ∧ ∀ a,¬ Owned (start N vs) (ds.map Dm.Cell.sh ++ List.replicate m .un) a := by
 have hl := rs.length
 refine ⟨⟨s,?_,fun i d h => ?_,fun i d h => ?_,fun i j d e a h1 h2 _ _ => ?_⟩,fun a ⟨i,d,h1,_⟩ => ?_⟩
 ·unfold L2.start
  simp only [List.length_append,List.length_map,List.length_replicate]
  omega
 ·rcases start_un h with ⟨d',z,q⟩ | z
  ·cases z
   obtain ⟨v,hv,r⟩ := rs.get q
   have hi : i < vs.length := (List.getElem?_eq_some_iff.mp hv).1
   refine ⟨v,?_,r⟩
   unfold L2.start
   rw [List.getElem?_append_left (by simpa using hi),List.getElem?_map,hv]
   rfl
  ·cases z
 ·rcases start_un h with ⟨d',z,q⟩ | z <;> cases z
 ·rcases start_un h1 with ⟨d',z,q⟩ | z <;> cases z
 ·rcases start_un h1 with ⟨d',z,q⟩ | z <;> cases z
theorem fnP_len {n m : Nat} {g : Dm.FSP} {vs : List V} {H : Hp} {Q : VK} {E : XK} (h : spP (Dm.fnP n m g) vs H Q E) : vs.length = n := by
 obtain ⟨H0,ds,z,s,rs,e,k⟩ := h
 unfold Dm.fnP at e
 split at e
 ·rename_i hl
  rw [rs.length]; exact hl
 ·cases e
theorem r_fnP {N : List Str} {n m : Nat} {g : Dm.FSP} {vs : List V} {Q : VK} {E : XK} (hm : N.length = n + m) (h : spP (Dm.fnP n m g) vs H Q E) :
  tDP g { nx := fun _ H' => Q .non H',rt := Q } (start N vs) H := by
 obtain ⟨H0,ds,p,s,rs,e,k⟩ := h
 unfold Dm.fnP at e
 split at e
 case isFalse => cases e
 rename_i hl
 obtain ⟨st,no⟩ := start_st hm hl s rs
 refine ⟨H0,_,p,st,e,fun σ' ρ' v H0' H' fp t r nd n => k v H0' H' fp ⟨t.stp.s0,fun a o e => t.stp.s1 a o e (no a),fun a o e => (t.stp.s2 a o e).imp id fun q => q.elim id fun z => absurd z (no a),t.st.same⟩ ?_ nd n⟩
 exact r.mono (Same.refl _) (fun a z => z.elim id fun z => absurd z (no a)) (fun _ _ _ h => h) fun _ _ => rfl
end
section
variable {X : Cx} {e : Expr} {st : Stmt} {rest : List Stmt} {fp : Dm.FP} {fs : Dm.FS} {g : Dm.FSP} {pos : Pos}
theorem q_r (h : DP X e fp) : DQs X [.Return (some e) pos] (Dm.qR fp) := pss_one (PS.weak (ps_ret h) fun _ _ _ => r_qR)
theorem q_cons (h1 : DS X st fs) (h2 : DQs X rest g) : DQs X (st :: rest) (Dm.qSeq fs g) := PSs.weak (pss_cons h1 h2) fun _ _ _ => r_qSeq
end
theorem RepSt.set_un {H0 H : Hp} {σ : L2.St} {ρ : Dm.Env} (st : RepSt H0 H σ ρ) (j : Nat) (v : Option V) : RepSt H0 H (σ.set j v) (ρ.set j .un) ∧ ∀ a,Owned (σ.set j v) (ρ.set j .un) a → Owned σ ρ a := by
 refine ⟨⟨st.same,by rw [List.length_set,List.length_set]; exact st.len,fun i d h => ?_,fun i d h => ?_,fun i i' d d' a h1 h2 h3 h4 => ?_⟩,fun a ⟨i,d,h1,h2⟩ => ?_⟩
 ·rcases set_get h with ⟨_,z⟩ | ⟨hij,h⟩
  ·cases z
  ·obtain ⟨v,q,r⟩ := st.sh i d h
   exact ⟨v,by rw [List.getElem?_set_ne (Ne.symm hij)]; exact q,r⟩
 ·rcases set_get h with ⟨_,z⟩ | ⟨hij,h⟩
  ·cases z
  ·obtain ⟨v,q,r⟩ := st.ow i d h
   exact ⟨v,by rw [List.getElem?_set_ne (Ne.symm hij)]; exact q,r⟩
 ·rcases set_get h1 with ⟨_,z⟩ | ⟨q1,h1⟩
  ·cases z
  rcases set_get h2 with ⟨_,z⟩ | ⟨q2,h2⟩
  ·cases z
  rw [List.getElem?_set_ne (Ne.symm q1)] at h3
  rw [List.getElem?_set_ne (Ne.symm q2)] at h4
  exact st.dis i i' d d' a h1 h2 h3 h4
 ·rcases set_get h1 with ⟨_,z⟩ | ⟨hij,h1⟩
  ·cases z
  ·rw [List.getElem?_set_ne (Ne.symm hij)] at h2
   exact ⟨i,d,h1,h2⟩
structure MS (j : Nat) (σs : L2.St) (ρs : Dm.Env) (H0s Hs : Hp) (σ : L2.St) (ρ : Dm.Env) (H0 H : Hp) (p : Dm.Dp) : Prop where
 st : RepSt H0 H σ ρ
 stp : Stp (Owned σs ρs) H0s Hs H0 H
 own : ∀ a,Owned σ ρ a → Owned σs ρs a ∨ Hs a = none
 fx : σ[0]? = σs[0]?
 ex : ∃ v fp,σ[j]? = some (some v) ∧ RepP (fun a => Hs a = none) H0 H v p fp ∧ Free σ ρ H0 fp
section
variable {j : Nat} {σs : L2.St} {ρs : Dm.Env} {H0s Hs : Hp} {σ : L2.St} {ρ ρ' : Dm.Env} {H0 H H0' H' : Hp} {p : Dm.Dp}
theorem MS.sst (n : MS j σs ρs H0s Hs σ ρ H0 H p) : SSt σs ρs H0s Hs σ ρ H0 H := ⟨n.st,n.stp,n.own,n.fx⟩
theorem MS.est (n : MS j σs ρs H0s Hs σ ρ H0 H p) (t : ESt σ ρ H0 H ρ' H0' H') : MS j σs ρs H0s Hs σ ρ' H0' H' p := by
 obtain ⟨v,fp,h1,h2,h3⟩ := n.ex
 obtain ⟨m1,m2⟩ := h2.est n.st t h3.2
 exact ⟨t.st,n.stp.trans t.stp n.own,fun a z => n.own a (t.own a z),n.fx,v,fp,h1,m1,h3.1,m2⟩
theorem MS.grow (n : MS j σs ρs H0s Hs σ ρ H0 H p) (g : Grow H0 H H0' H') : MS j σs ρs H0s Hs σ ρ H0' H' p := n.est (.grow n.st g)
open Classical in
noncomputable def bor (H0 H : Hp) (N : Addr → Prop) : Hp := fun a => match H0 a with
 | some o => some o
 | none => if N a then H a else none
theorem bor_up {N : Addr → Prop} : Same H0 (bor H0 H N) := fun a o e => by unfold bor; rw [e]
theorem bor_sub {N : Addr → Prop} (s : Same H0 H) : Same (bor H0 H N) H := fun a o e => by
 unfold bor at e
 split at e
 ·rename_i q; cases e; exact s _ _ q
 ·split at e
  ·exact e
  ·cases e
theorem bor_in {N : Addr → Prop} (s : Same H0 H) {a : Addr} {o : HO} (n : N a) (h : H a = some o) : bor H0 H N a = some o := by
 unfold bor
 split
 ·rename_i o' q
  rw [← h]; exact (s _ _ q).symm
 ·rw [if_pos n]; exact h
def Look (Hs : Hp) (σ : L2.St) (ρ : Dm.Env) (a : Addr) : Prop := Hs a = none ∨ Owned σ ρ a
theorem see_no {j : Nat} {σ : L2.St} {ρ : Dm.Env} {p : Dm.Dp} {a : Addr} : ¬ Owned σ (Dm.see j ρ p) a := fun ⟨i,d,h1,_⟩ => by
 unfold Dm.see Dm.shAll at h1
 rw [List.getElem?_map] at h1
 cases q : (ρ.set j (.sh p.dat))[i]? with
 | none => rw [q] at h1; cases h1
 | some c => rw [q] at h1; cases c <;> cases h1
theorem MS.see (n : MS j σs ρs H0s Hs σ ρ H0 H p) : RepSt (bor H0 H (Look Hs σ ρ)) H σ (Dm.see j ρ p) := by
 obtain ⟨v,fp,h1,h2,h3⟩ := n.ex
 refine ⟨bor_sub n.st.same,by unfold Dm.see Dm.shAll; rw [List.length_map,List.length_set]; exact n.st.len,fun i d h => ?_,fun i d h => ?_,fun i i' d d' a z1 z2 z3 z4 => ?_⟩
 ·unfold Dm.see Dm.shAll at h
  rw [List.getElem?_map] at h
  cases q : (ρ.set j (.sh p.dat))[i]? with
  | none => rw [q] at h; cases h
  | some c =>
   rw [q] at h
   rcases set_get q with ⟨rfl,rfl⟩ | ⟨_,q⟩
   ·cases h
    exact ⟨v,h1,h2.rep bor_up fun a o z w => bor_in n.st.same (.inl z) w⟩
   ·cases c with
    | un => cases h
    | sh d' =>
     cases h
     obtain ⟨u,w1,w2⟩ := n.st.sh i d q
     exact ⟨u,w1,w2.mono bor_up⟩
    | ow d' =>
     cases h
     obtain ⟨a,w1,w2,w3⟩ := n.st.ow i d q
     have lk : Look Hs σ ρ a := .inr ⟨i,d,q,w1⟩
     refine ⟨_,w1,?_⟩
     cases d with
     | lst ds => obtain ⟨xs,y,rs⟩ := w3; exact .lst (.inl (bor_in n.st.same lk y)) (rs.mono bor_up)
     | dct ks ds => obtain ⟨xs,y,k,rs⟩ := w3; exact .dct (bor_in n.st.same lk y) k (rs.mono bor_up)
     | _ => exact w3.elim
 ·exact (see_no (σ := List.replicate (i + 1) (some (V.ref 0))) (a := 0) ⟨i,d,h,by rw [List.getElem?_replicate,if_pos (Nat.lt_succ_self i)]⟩).elim
 ·exact (see_no ⟨i,d,z1,z3⟩).elim
theorem MS.seen (n : MS j σs ρs H0s Hs σ ρ H0 H p) {Hb : Hp} (t : ESt σ (Dm.see j ρ p) Hb H ρ' H0' H') : Grow H0 H H0 H' :=
 ⟨Same.refl _,fun a o e => t.stp.s1 a o e see_no,fun a o e => .inr e,n.st.same.trans fun a o e => t.stp.s1 a o e see_no⟩
end
def tDM (j : Nat) (g : Dm.FM) : TS := fun D σ H => ∃ σs ρs H0s Hs H0 ρ p o,MS j σs ρs H0s Hs σ ρ H0 H p ∧ g ρ p = some o ∧ OutOk D σs ρs H0s Hs o
abbrev DMs (X : Cx) (j : Nat) (st : List Stmt) (g : Dm.FM) : Prop := PSs X st (tDM j g)
section
variable {D : Ends} {σ : L2.St} {H : Hp} {j : Nat}
theorem r_mEnd {gs : Dm.FS} (h : tDM j (Dm.mEnd gs) D σ H) : tDS gs D σ H := by
 obtain ⟨σs,ρs,H0s,Hs,H0,ρ,p,o,n,e,k⟩ := h
 exact ⟨H0,ρ,o,n.st,e,k.pre n.sst⟩
theorem r_mIf {t : Dm.FT} {fs : Dm.FS} {g : Dm.FM} (h : tDM j (Dm.mIf j t fs g) D σ H) : tSeq (tIfS (tDT t) (tDS fs) tNext) (tDM j g) D σ H := by
 obtain ⟨σs,ρs,H0s,Hs,H0,ρ,p,o,n,e,k⟩ := h
 unfold Dm.mIf at e
 split at e
 ·cases e
 ·rename_i ρ1 e1
  refine ⟨_,_,true,ρ1,n.see,e1,fun H1 Hb t1 => ?_⟩
  dsimp only
  rw [if_pos rfl]
  have n1 := n.grow (n.seen t1)
  have k1 := k.pre n1.sst
  split at e
  ·cases e
  ·rename_i hn
   refine ⟨H0,ρ,o,n1.st,e,?_⟩
   cases o with
   | nx ρ' => exact (hn ρ' e).elim
   | bk ρ' => exact k1
   | ct ρ' => exact k1
   | ret z ρ' => exact k1
 ·rename_i ρ1 e1
  refine ⟨_,_,false,ρ1,n.see,e1,fun H1 Hb t1 => ?_⟩
  dsimp only
  rw [if_neg Bool.false_ne_true]
  exact ⟨σs,ρs,H0s,Hs,H0,ρ,p,o,n.grow (n.seen t1),e,k⟩
theorem MS.wr {σs : L2.St} {ρs : Dm.Env} {H0s Hs : Hp} {ρ : Dm.Env} {H0 : Hp} {p : Dm.Dp} (n : MS j σs ρs H0s Hs σ ρ H0 H p) {a : Addr} (h1 : Hs a = none) (h2 : H0 a = none) (h3 : ¬ Owned σ ρ a) (o : HO) : SSt σs ρs H0s Hs σ ρ H0 (upd H a o) :=
 ⟨n.st.aside h2 h3,n.stp.aside h1,n.own,n.fx⟩
theorem r_mClr {K : PySem.W.Frag} {i : Int} {gs : Dm.FS} (h : tDM j (Dm.mClr i gs) D σ H) : tSeq (tDrop (tBM0 K "list" rClear (tOp (rIxT K) (tVar j) (tC (.int i))))) (tDS gs) D σ H := by
 obtain ⟨σs,ρs,H0s,Hs,H0,ρ,p,o,n,e,k⟩ := h
 unfold Dm.mClr at e
 split at e
 case h_2 => cases e
 rename_i ps
 split at e
 ·cases e
 rename_i m em
 split at e
 case h_2 => cases e
 rename_i rows hi
 obtain ⟨v,fp,h1,h2,h3⟩ := n.ex
 cases h2 with
 | t hN ha rs =>
  rename_i a vs
  obtain ⟨u,f,hu,ru,hf⟩ := rs.get hi
  cases ru with
  | l hNb hb rb =>
   rename_i b us fb
   obtain ⟨z1,z2⟩ := h3.2 b (hf b List.mem_cons_self)
   refine ⟨_,h1,a,vs,i,.ref b,rfl,rfl,.of ha,?_,.inl ⟨rfl,us,.inl (.inl hb)⟩,b,us,rfl,rfl,hb,?_⟩
   ·show (L2.ixN vs.length i).bind (fun j => vs[j]?) = _
    rw [← ixN_eq,rs.length,em]
    exact hu
   ·have t := n.wr hNb z1 z2 (.lst [])
    exact ⟨H0,ρ,o,t.st,e,k.pre t⟩
end
section
variable {X : Cx} {e c : Expr} {rest : List Stmt} {fs gs : Dm.FS} {g : Dm.FM} {pos : Pos} {j : Nat}
theorem m_end (h : DSs X rest gs) : DMs X j rest (Dm.mEnd gs) := PSs.weak h fun _ _ _ => r_mEnd
theorem m_if {t : Dm.FT} {x : List Stmt} (ht : DT X c t) (ha : DSs X x fs) (hr : DMs X j rest g) : DMs X j (.If c x [] pos :: rest) (Dm.mIf j t fs g) := PSs.weak (pss_cons (ps_if ht ha pss_nil) hr) fun _ _ _ => r_mIf
theorem m_clr {x : Str} {px sp ap cp ip : Pos} {i : Int} {jc} (hr : DSs X rest gs) (hi : X.N[j]? = some x := by rfl) (hv : Vis X.env.scope x := by first | exact Or.inl rfl | exact Or.inr (Or.inl rfl) | exact Or.inr (Or.inr rfl)) (hd : (x == ("__debug__" : Str)) = false := by decide)
  (hcd : (x == ("__classdict__" : Str)) = false := by decide) (hpl : PlainIx (.Constant (.int i) jc ip) := by intro _ _; rfl) (hbase : attributeBase (.Subscript (.Name x px) (.Constant (.int i) jc ip) sp) "clear" X.env (eval (.Subscript (.Name x px) (.Constant (.int i) jc ip) sp) X.env) = eval (.Subscript (.Name x px) (.Constant (.int i) jc ip) sp) X.env := by rfl)
  (hline : (ap.endLine == cp.line) = true := by rfl) (hsw : swapsWith (.Call (.Attribute (.Subscript (.Name x px) (.Constant (.int i) jc ip) sp) "clear" ap) [] [] cp) none pos.line X.env = pure false := by rfl) :
  DMs X j (.Expr (.Call (.Attribute (.Subscript (.Name x px) (.Constant (.int i) jc ip) sp) "clear" ap) [] [] cp) pos :: rest) (Dm.mClr i gs) :=
 PSs.weak (pss_cons (ps_expr (pe_bm0 PySem.F.plainAttrs_list PySem.F.slot_list_clear PySem.F.type_list_clear mt_clear (pe_ix ix_tup (pe_var hi hv hd hcd) pe_int hpl) hbase hline) hsw) hr) fun _ _ _ => r_mClr
end
end Br
namespace Dm
mutual
def noLs : Dat → Bool
 | .tup xs => noLss xs
 | .lst _ => false
 | .dct _ _ => false
 | .exc _ => false
 | _ => true
def noLss : List Dat → Bool
 | [] => true
 | x :: r => noLs x && noLss r
end
mutual
def leafOk : Dp → Bool
 | .s d => noLs d
 | .l xs => leafOks xs
 | .t xs => leafOks xs
def leafOks : List Dp → Bool
 | [] => true
 | x :: r => leafOk x && leafOks r
end
def pCompD (bd : FB) (el : FP) : List Dat → Env → List Dp → Option (List Dp × Env)
 | [],ρ,acc => some (acc,ρ)
 | d :: r,ρ,acc => match bd d ρ with
  | none => none
  | some ρ1 => match el ρ1 with
   | none => none
   | some (p,ρ2) => pCompD bd el r ρ2 (acc ++ [p])
def pComp (it : FI) (own : Nat) (bd : FB) (el : FP) : FP := fun ρ => match it ρ with
 | none => none
 | some (ds,ρ1) => if ds.length ≤ SZ then (match pCompD bd el ds (ρ1 ++ List.replicate own .un) [] with
  | none => none
  | some (ps,ρ2) => some (.l ps,ρ2.take ρ1.length)) else none
inductive OM where
 | nx (ρ : Env) (p : Dp)
 | rt (d : Dat) (ρ : Env)
abbrev FC := Env → Dp → Option OM
def cNx : FC := fun ρ p => some (.nx ρ p)
def cSeq (s u : FC) : FC := fun ρ p => match s ρ p with
 | some (.nx ρ1 p1) => u ρ1 p1
 | o => o
def cIf (j : Nat) (t : FT) (a b : FC) : FC := fun ρ p => match t (see j ρ p) with
 | none => none
 | some (true,_) => a ρ p
 | some (false,_) => b ρ p
def cRt (j : Nat) (e : FE) : FC := fun ρ p => match e (see j ρ p) with
 | some (.val d,_) => if isBox d then none else some (.rt d ρ)
 | _ => none
def cForD (bd : FB) (body : FC) : List Dat → FC
 | [],ρ,p => some (.nx ρ p)
 | d :: q,ρ,p => match bd d ρ with
  | none => none
  | some ρ1 => match body ρ1 p with
   | some (.nx ρ2 p2) => cForD bd body q ρ2 p2
   | o => o
def cFor (it : FI) (bd : FB) (body : FC) : FC := fun ρ p => match it ρ with
 | none => none
 | some (ds,ρ1) => cForD bd body ds ρ1 p
def cKeep (j i : Nat) (f : FP) : FC := fun ρ p => if i = 0 ∨ i = j then none else match f (see j ρ p) with
 | none => none
 | some (q,_) => if leafOk q then some (.nx (ρ.set i (.sh q.dat)) p) else none
def rowApp (rows : List Dp) (k : Int) (d : Dat) : Option (List Dp) := match ixN rows.length k with
 | none => none
 | some m => match rows[m]? with
  | some (.l items) => if items.length < SZ then some (rows.set m (.l (items ++ [.s d]))) else none
  | _ => none
def mSeq (s : FC) (g : FM) : FM := fun ρ p => match s ρ p with
 | some (.nx ρ1 p1) => g ρ1 p1
 | some (.rt d ρ1) => some (.ret (.val d) ρ1)
 | none => none
end Dm
namespace Br
open PySem PySem.Spec PyProof.Rows L2
theorem RepPs.snoc {N : Addr → Prop} {H0 H : Hp} {w : V} {q : Dm.Dp} {f : List Addr} (r : RepP N H0 H w q f) : ∀ {vs : List V} {ps : List Dm.Dp} {fp : List Addr},RepPs N H0 H vs ps fp → RepPs N H0 H (vs ++ [w]) (ps ++ [q]) (fp ++ f)
 | _,_,_,.nil => by
  have := RepPs.cons r (RepPs.nil (N := N) (H0 := H0) (H := H))
  rw [List.append_nil] at this
  exact this
 | _,_,_,.cons h t => by
  have := RepPs.cons h (RepPs.snoc r t)
  rw [← List.append_assoc] at this
  exact this
theorem deep_run {σ : L2.St} {own : Nat} {bd : Dm.FB} {g : TG} {el : Dm.FP} {is : List Nat} {Q : VK} {H00 Hb : Hp} {ρ1 ρ2 : Dm.Env} {ds : List Dm.Dat} {ps : List Dm.Dp} {J : It} (hb : BD is g bd) (hl : ∀ i ∈ is,σ.length ≤ i)
  (st1 : RepSt H00 Hb σ ρ1) (jw : JW J H00 ds) (hsz : ds.length ≤ Dm.SZ) (e2 : Dm.pCompD bd el ds (ρ1 ++ List.replicate own .un) [] = some (ps,ρ2)) (D : Addr) (hD : Hb D = none)
  (k : ∀ H0' H' fp,ESt σ ρ1 H00 Hb (ρ2.take ρ1.length) H0' H' → RepP (NewE σ ρ1 Hb) H0' H' (.ref D) (.l ps) fp → Free σ (ρ2.take ρ1.length) H0' fp → Q (.ref D) H') :
  ∃ W : Nat → Nat → L2.St → Hp → Prop,(∃ m,W 0 m (σ ++ List.replicate own none) (upd Hb D (.lst []))) ∧ ∀ i m σ' H',W i m σ' H' →
  (J.stop i H' ∧ Q (.ref D) H') ∨ (J.go i H' ∧ ∀ x H2,J.yld i H' x H2 → g x σ' H2 fun σ2 H3 => tYes σ2 H3 fun b H4 => if b = true
   then tDp el σ2 H4 fun y H5 => ∃ acc,H5 D = some (.lst acc) ∧ acc.length < sizeLine ∧ ∃ m',m' < m ∧ W (i + 1) m' σ2 (upd H5 D (.lst (acc ++ [y])))
   else ∃ m',m' < m ∧ W (i + 1) m' σ2 H4) := by
 have noD : ¬ Owned σ ρ1 D := st1.notOwned hD
 refine ⟨fun i m σ' H' => ∃ (H0c : Hp) (ρc : Dm.Env) (pa : List Dm.Dp) (fp : List Addr),RepSt H0c H' σ' ρc ∧ Same H00 H0c ∧ m = ds.length - i ∧ i ≤ ds.length ∧ Dm.pCompD bd el (ds.drop i) ρc pa = some (ps,ρ2) ∧
  RepP (NewE σ ρ1 Hb) H0c H' (.ref D) (.l pa) fp ∧ pa.length = i ∧ Free σ' ρc H0c fp ∧ Stp (Owned σ ρ1) H00 Hb H0c H' ∧ (∀ j,j < σ.length → σ'[j]? = σ[j]?) ∧ (∀ a,Owned σ' ρc a → Owned σ ρ1 a),
  ⟨ds.length,H00,ρ1 ++ List.replicate own .un,[],[D],(st1.aside (st1.same.free hD) noD).ext own,Same.refl _,by simp,Nat.zero_le _,by simpa using e2,.l (.inl hD) upd_same .nil,rfl,⟨by simp,fun a ha => ?_⟩,(Stp.refl _ _ _).aside hD,
   fun j hj => List.getElem?_append_left hj,fun a z => owned_ext st1 z⟩,?_⟩
 ·rw [List.mem_singleton.mp ha]
  exact ⟨st1.same.free hD,fun z => noD (owned_ext st1 z)⟩
 rintro i m σ' H' ⟨H0c,ρc,pa,fp,sc,s00,rfl,hi,ec,ra,hpl,fr,sp,hσ,ho⟩
 obtain ⟨js,jg⟩ := jw H0c H' s00 sc.same
 by_cases hlt : i < ds.length
 ·have hd : ds[i]? = some ds[i] := by simp [hlt]
  obtain ⟨g1,g2⟩ := jg i ds[i] hd
  rw [List.drop_eq_getElem_cons hlt] at ec
  unfold Dm.pCompD at ec
  refine .inr ⟨g1,fun y H2 yy => ?_⟩
  obtain ⟨H0',gr,rx⟩ := g2 y H2 yy
  split at ec
  ·cases ec
  rename_i ρ3 e3
  split at ec
  ·cases ec
  rename_i p5 ρ5 e5
  have t2 := ESt.grow sc gr
  obtain ⟨ra2,fr2⟩ := ra.est sc t2 fr.2
  refine hb H0' H2 σ' ρc ρ3 y ds[i] _ t2.st rx e3 fun σ3 st3 o3 k3 d3 _ => ?_
  unfold tYes
  dsimp only
  rw [if_pos rfl]
  refine ⟨H0',ρ3,p5,ρ5,st3,e5,fun v H5 Hc f5 t5 r5 g5 => ?_⟩
  have fr3 : ∀ a ∈ fp,H0' a = none ∧ ¬ Owned σ3 ρ3 a := fun a ha => ⟨(fr2 a ha).1,fun z => (fr2 a ha).2 (o3 a z)⟩
  obtain ⟨ra5,fr5⟩ := ra2.est st3 t5 fr3
  have sp3 : Stp (Owned σ ρ1) H00 Hb H0' H2 := sp.trans t2.stp fun a z => .inl (ho a z)
  have sp5 : Stp (Owned σ ρ1) H00 Hb H5 Hc := sp3.trans t5.stp fun a z => .inl (ho a (o3 a z))
  have nw : ∀ a,NewE σ3 ρ3 H2 a → NewE σ ρ1 Hb a := fun a z => z.elim (fun z => .inl (sp3.gone z)) fun z => .inr (ho a (o3 a z))
  have frA : Free σ3 ρ5 H5 (fp ++ f5) := Free.app (H1 := H0') (Hb := H2) (Hc := Hc) fr.1 (fun a ha => ⟨by obtain ⟨_,xs,h⟩ := ra2.fpN a ha; exact ⟨_,h⟩,(fr3 a ha).2⟩) fr5 g5 fun a ha => (r5.fpN a ha).1
  cases ra5 with
  | l nD hDc rs =>
   rename_i vs fq
   obtain ⟨z1,z2⟩ := fr5 D List.mem_cons_self
   have ndA := frA.1
   rw [List.cons_append] at ndA
   obtain ⟨nd1,nd2⟩ := List.nodup_cons.mp ndA
   refine ⟨vs,hDc,?_,ds.length - (i + 1),by omega,H5,ρ5,pa ++ [p5],D :: (fq ++ f5),t5.st.aside z1 z2,(s00.trans gr.s0).trans t5.stp.s0,rfl,hlt,ec,?_,by simp [hpl],frA,sp5.aside hD,fun j hj => (k3 j fun z => Nat.not_lt.mpr (hl j z) hj).trans (hσ j hj),fun a z => ho a (o3 a (t5.own a z))⟩
   ·rw [rs.length,hpl]
    unfold Dm.SZ at hsz
    exact Nat.lt_of_lt_of_le (Nat.lt_of_lt_of_le hlt hsz) (by decide)
   ·refine .l nD upd_same ?_
    have r5' : RepP (NewE σ ρ1 Hb) H5 Hc v p5 f5 := r5.mono (Same.refl _) nw (fun _ _ _ h => h) fun _ _ => rfl
    refine (rs.snoc r5').mono (Same.refl _) (fun _ n => n) (fun a us _ h => ?_) fun a ha => ?_
    ·rw [upd_ne fun z => ?_]
     ·exact h
     ·rw [z,hDc] at h; cases h
    ·exact upd_ne fun z => nd1 (z ▸ ha)
 ·have e' : i = ds.length := by omega
  subst e'
  rw [List.drop_length] at ec
  cases ec
  have hlen : σ.length ≤ ρ2.length := by
   rw [← sc.len]
   refine Nat.not_lt.mp fun z => ?_
   have q := hσ σ'.length z
   rw [List.getElem?_eq_none (Nat.le_refl _),List.getElem?_eq_getElem z] at q
   cases q
  have tk : ∀ {j : Nat} {c : Dm.Cell},(ρ2.take ρ1.length)[j]? = some c → j < σ.length ∧ ρ2[j]? = some c := fun {j c} h => by
   have hj : j < ρ1.length := by
    have := (List.getElem?_eq_some_iff.mp h).1
    rw [List.length_take] at this
    omega
   rw [List.getElem?_take_of_lt hj] at h
   exact ⟨by rw [st1.len]; exact hj,h⟩
  have own' : ∀ a,Owned σ (ρ2.take ρ1.length) a → Owned σ' ρ2 a := fun a ⟨j,d,h1,h2⟩ => by
   obtain ⟨hj,h1⟩ := tk h1
   exact ⟨j,d,h1,(hσ j hj).trans h2⟩
  refine .inl ⟨js _ (Nat.le_refl _),k H0c H' fp ⟨⟨sc.same,?_,fun j d h => ?_,fun j d h => ?_,fun j j' d d' a h1 h2 h3 h4 => ?_⟩,sp,fun a z => ho a (own' a z),fun j z => trivial⟩ ra ⟨fr.1,fun a ha => ⟨(fr.2 a ha).1,fun z => (fr.2 a ha).2 (own' a z)⟩⟩⟩
  ·rw [List.length_take,← st1.len]; omega
  ·obtain ⟨hj,h⟩ := tk h
   obtain ⟨v,q,r⟩ := sc.sh j d h
   exact ⟨v,(hσ j hj).symm.trans q,r⟩
  ·obtain ⟨hj,h⟩ := tk h
   obtain ⟨v,q,r⟩ := sc.ow j d h
   exact ⟨v,(hσ j hj).symm.trans q,r⟩
  ·obtain ⟨hj,h1⟩ := tk h1
   obtain ⟨hj',h2⟩ := tk h2
   exact sc.dis j j' d d' a h1 h2 ((hσ j hj).trans h3) ((hσ j' hj').trans h4)
theorem r_pcomp {σ : L2.St} {H : Hp} {Q : VK} {fi : Dm.FI} {own : Nat} {bd : Dm.FB} {g : TG} {el : Dm.FP} {is : List Nat} (hb : BD is g bd) (hl : ∀ i ∈ is,σ.length ≤ i) (h : tDp (Dm.pComp fi own bd el) σ H Q) : tLC (tDI fi) own g tYes (tDp el) σ H Q := by
 obtain ⟨H0,ρ,x,ρ',st,e,k⟩ := h
 unfold Dm.pComp at e
 split at e
 ·cases e
 rename_i ds ρ1 e1
 split at e
 case isFalse => cases e
 rename_i hsz
 split at e
 ·cases e
 rename_i ps ρ2 e2
 cases e
 refine ⟨H0,ρ,ds,ρ1,st,e1,fun J H00 Hb t1 jw D hD => deep_run hb hl t1.st jw hsz e2 D hD fun H0' H' fp t2 r2 f2 => k _ H0' H' fp (t1.trans t2) (r2.mono (Same.refl _) (fun a n => NewE.back t1 n) (fun _ _ _ h => h) fun _ _ => rfl) f2⟩
mutual
theorem Rep.thin {H0 H1 : Hp} (k : ∀ a vs,H0 a = some (.tup vs) → H1 a = some (.tup vs)) : ∀ {v : V} {d : Dm.Dat},Rep H0 v d → Dm.noLs d = true → Rep H1 v d
 | _,_,.non,_ => .non
 | _,_,.bl b,_ => .bl b
 | _,_,.int i,_ => .int i
 | _,_,.str x,_ => .str x
 | _,_,.tup h r,e => .tup (k _ _ h) (Reps.thin k r (by unfold Dm.noLs at e; exact e))
 | _,_,.lst _ _,e => by unfold Dm.noLs at e; cases e
 | _,_,.dct _ _ _,e => by unfold Dm.noLs at e; cases e
 | _,_,.exc _,e => by unfold Dm.noLs at e; cases e
 | _,_,.fn a,_ => .fn a
theorem Reps.thin {H0 H1 : Hp} (k : ∀ a vs,H0 a = some (.tup vs) → H1 a = some (.tup vs)) : ∀ {vs : List V} {ds : List Dm.Dat},Reps H0 vs ds → Dm.noLss ds = true → Reps H1 vs ds
 | _,_,.nil,_ => .nil
 | _,_,.cons h r,e => by
  unfold Dm.noLss at e
  rw [Bool.and_eq_true] at e
  exact .cons (Rep.thin k h e.1) (Reps.thin k r e.2)
end
section
variable {X : Cx} {e elt iter tg : Expr} {es : List Expr} {fs : List Dm.FE} {fi : Dm.FI} {fp : Dm.FP} {bd : Dm.FB} {is : List Nat} {scope : Scope} {pos p : Pos}
theorem p_cp (nm own : List Str) (hg : TGc X nm scope own tg is bd) (hi : DI X tg iter fi) (he : ∀ cl C s H fp',DP (compX X nm scope own cl C s H fp') elt fp)
  (hc : X.calm = true := by rfl) (hk : scope.kind = .function := by rfl) (hS : cscOk X.env.scope X.N nm scope = true := by rfl) (hl : (is.all fun i => decide (X.N.length ≤ i)) = true := by rfl) (hs : ∀ x,foldedSetIterable iter X.env x = pure x := by intro _; rfl) :
  DP X (.ListComp elt [⟨tg,iter,[],0⟩] scope pos) (Dm.pComp fi own.length bd fp) := by
 obtain ⟨g,h1,h2⟩ := hg.ex
 intro pins s σ H Q I h
 exact pe_comp hc (CScope.of hS hk) hi h1 (fun cl C s H fp => pts_nil) he hs pins s σ H Q I (r_pcomp h2 (fun i hi => by rw [I.len]; exact hl_of hl i hi) h)
end
def OmOk (D : Ends) (j : Nat) (σs : L2.St) (ρs : Dm.Env) (H0s Hs H0 : Hp) : Dm.OM → Prop
 | .nx ρ' p' => ∀ σ' H0' H',MS j σs ρs H0s Hs σ' ρ' H0' H' p' → Same H0 H0' → D.nx σ' H'
 | .rt d ρ' => ∀ σ' v H0' H' p',MS j σs ρs H0s Hs σ' ρ' H0' H' p' → Rep H0' v d → D.rt v H'
def tDC (j : Nat) (g : Dm.FC) : TS := fun D σ H => ∃ σs ρs H0s Hs H0 ρ p o,MS j σs ρs H0s Hs σ ρ H0 H p ∧ g ρ p = some o ∧ OmOk D j σs ρs H0s Hs H0 o
theorem OmOk.up {D : Ends} {j : Nat} {σs : L2.St} {ρs : Dm.Env} {H0s Hs H0 H1 : Hp} {o : Dm.OM} (k : OmOk D j σs ρs H0s Hs H0 o) (s : Same H0 H1) : OmOk D j σs ρs H0s Hs H1 o := by
 cases o with
 | nx ρ' p' => exact fun σ' H0' H' n q => k σ' H0' H' n (s.trans q)
 | rt d ρ' => exact k
abbrev DC (X : Cx) (j : Nat) (st : Stmt) (g : Dm.FC) : Prop := PS X st (tDC j g)
abbrev DCs (X : Cx) (j : Nat) (st : List Stmt) (g : Dm.FC) : Prop := PSs X st (tDC j g)
section
variable {j : Nat} {σs : L2.St} {ρs : Dm.Env} {H0s Hs : Hp} {σ : L2.St} {ρ ρ' : Dm.Env} {H0 H H0' H' : Hp} {p q : Dm.Dp}
theorem MS.bind (n : MS j σs ρs H0s Hs σ ρ H0 H p) {σ' : L2.St} {ρ' : Dm.Env} (st : RepSt H0 H σ' ρ') (o : ∀ a,Owned σ' ρ' a → Owned σ ρ a) (hj : σ'[j]? = σ[j]?) (h0 : σ'[0]? = σ[0]?) : MS j σs ρs H0s Hs σ' ρ' H0 H p := by
 obtain ⟨v,fp,h1,h2,h3⟩ := n.ex
 exact ⟨st,n.stp,fun a z => n.own a (o a z),h0.trans n.fx,v,fp,hj.trans h1,h2,h3.1,fun a ha => ⟨(h3.2 a ha).1,fun z => (h3.2 a ha).2 (o a z)⟩⟩
theorem MS.set (n : MS j σs ρs H0s Hs σ ρ H0 H p) {i : Nat} {v : V} {d : Dm.Dat} (hi : i ≠ 0) (hj : i ≠ j) (r : Rep H0 v d) : MS j σs ρs H0s Hs (σ.set i (some v)) (ρ.set i (.sh d)) H0 H p :=
 n.bind (n.st.set_sh r) (fun _ z => owned_set_sh z) (List.getElem?_set_ne hj) (List.getElem?_set_ne hi)
open Classical in
noncomputable def cpy (Hs H0 H H0' H' : Hp) : Hp := fun a => match H0 a with
 | some o => some o
 | none => if H a = none then H' a else match H0' a with
  | some (.tup vs) => if Hs a = none then some (.tup vs) else none
  | _ => none
theorem cpy_up : Same H0 (cpy Hs H0 H H0' H') := fun a o e => by unfold cpy; rw [e]
theorem cpy_new (s : Same H0 H) {a : Addr} (h : H a = none) : cpy Hs H0 H H0' H' a = H' a := by
 unfold cpy
 rw [s.free h]
 dsimp only
 rw [if_pos h]
theorem cpy_cases {a : Addr} {o : HO} (e : cpy Hs H0 H H0' H' a = some o) : H0 a = some o ∨ (H a = none ∧ H' a = some o) ∨ (Hs a = none ∧ H0' a = some o ∧ ∃ vs,o = .tup vs) := by
 unfold cpy at e
 split at e
 ·rename_i q; cases e; exact .inl q
 ·split at e
  ·rename_i h; exact .inr (.inl ⟨h,e⟩)
  ·split at e
   ·rename_i vs q
    split at e
    ·rename_i h; cases e; exact .inr (.inr ⟨h,q,vs,rfl⟩)
    ·cases e
   ·cases e
mutual
theorem RepP.copy {N : Addr → Prop} (kn : ∀ a o,N a → H' a = some o → cpy Hs H0 H H0' H' a = some o) (kt : ∀ a vs,H0' a = some (.tup vs) → cpy Hs H0 H H0' H' a = some (.tup vs)) : ∀ {v : V} {p : Dm.Dp} {fp : List Addr},RepP N H0' H' v p fp → Dm.leafOk p = true → Rep (cpy Hs H0 H H0' H') v p.dat
 | _,_,_,.s r,e => by unfold Dm.leafOk at e; exact Rep.thin kt r e
 | _,_,_,.l n h r,e => .lst (.inl (kn _ _ n h)) (RepPs.copy kn kt r (by unfold Dm.leafOk at e; exact e))
 | _,_,_,.t n h r,e => .tup (kn _ _ n h) (RepPs.copy kn kt r (by unfold Dm.leafOk at e; exact e))
theorem RepPs.copy {N : Addr → Prop} (kn : ∀ a o,N a → H' a = some o → cpy Hs H0 H H0' H' a = some o) (kt : ∀ a vs,H0' a = some (.tup vs) → cpy Hs H0 H H0' H' a = some (.tup vs)) : ∀ {vs : List V} {ps : List Dm.Dp} {fp : List Addr},RepPs N H0' H' vs ps fp → Dm.leafOks ps = true → Reps (cpy Hs H0 H H0' H') vs (Dm.Dp.dats ps)
 | _,_,_,.nil,_ => .nil
 | _,_,_,.cons h r,e => by
  unfold Dm.leafOks at e
  rw [Bool.and_eq_true] at e
  exact .cons (RepP.copy kn kt h e.1) (RepPs.copy kn kt r e.2)
end
theorem MS.keep (n : MS j σs ρs H0s Hs σ ρ H0 H p) (t : ESt σ (Dm.see j ρ p) (bor H0 H (Look Hs σ ρ)) H ρ' H0' H') {v : V} {fq : List Addr} (r : RepP (NewE σ (Dm.see j ρ p) H) H0' H' v q fq) (e : Dm.leafOk q = true) :
  MS j σs ρs H0s Hs σ ρ (cpy Hs H0 H H0' H') H' p ∧ Rep (cpy Hs H0 H H0' H') v q.dat := by
 have up : Same H H' := fun a o e => t.stp.s1 a o e see_no
 have lst : ∀ {a : Addr} {o : HO},H0 a = none → H a = some o → (∀ vs,o ≠ .tup vs) → cpy Hs H0 H H0' H' a = none := fun {a o} h0 h nt => by
  cases z : cpy Hs H0 H H0' H' a with
  | none => rfl
  | some u =>
   rcases cpy_cases z with y | ⟨y,_⟩ | ⟨_,y,vs,rfl⟩
   ·rw [h0] at y; cases y
   ·rw [h] at y; cases y
   ·have := t.st.same _ _ y
    rw [up _ _ h] at this
    cases this
    exact absurd rfl (nt vs)
 obtain ⟨w,fp,h1,h2,h3⟩ := n.ex
 have stp : Stp (Owned σs ρs) H0s Hs (cpy Hs H0 H H0' H') H' := by
  refine ⟨n.stp.s0.trans cpy_up,fun a o e' no => up _ _ (n.stp.s1 a o e' no),fun a o e' => ?_,fun a o e' => ?_⟩
  ·rcases cpy_cases e' with y | ⟨y,_⟩ | ⟨y,_⟩
   ·exact n.stp.s2 a o y
   ·exact .inl (n.stp.gone y)
   ·exact .inl y
  ·obtain ⟨o',q⟩ := n.stp.s3 a o e'
   exact ⟨o',up _ _ q⟩
 refine ⟨⟨⟨fun a o e' => ?_,n.st.len,fun i d h => ?_,fun i d h => ?_,n.st.dis⟩,stp,n.own,n.fx,w,fp,h1,h2.mono cpy_up (fun _ z => z) (fun a vs _ h => up _ _ h) fun a ha => ?_,h3.1,fun a ha => ⟨?_,(h3.2 a ha).2⟩⟩,?_⟩
 ·rcases cpy_cases e' with y | ⟨_,y⟩ | ⟨_,y,_⟩
  ·exact up _ _ (n.st.same _ _ y)
  ·exact y
  ·exact t.st.same _ _ y
 ·obtain ⟨u,z,y⟩ := n.st.sh i d h
  exact ⟨u,z,y.mono cpy_up⟩
 ·obtain ⟨a,z,n0,y⟩ := n.st.ow i d h
  obtain ⟨o,ho⟩ := y.some
  refine ⟨a,z,lst n0 ho fun vs e' => ?_,y.mono cpy_up ((up _ _ ho).trans ho.symm)⟩
  subst e'
  exact n.st.tupNot ho ⟨i,d,h,z⟩
 ·obtain ⟨_,xs,h⟩ := h2.fpN a ha
  rw [up _ _ h,h]
 ·obtain ⟨_,xs,h⟩ := h2.fpN a ha
  exact lst (h3.2 a ha).1 h fun vs z => by cases z
 ·refine r.copy (fun a o z h => ?_) (fun a vs h => ?_) e
  ·rcases z with z | z
   ·rw [cpy_new n.st.same z]; exact h
   ·exact (see_no z).elim
  ·rcases t.stp.s2 a _ h with z | z | z
   ·rw [cpy_new n.st.same z]; exact t.st.same _ _ h
   ·have hH := bor_sub n.st.same _ _ z
    unfold bor at z
    split at z
    ·rename_i o q; cases z; exact cpy_up _ _ q
    ·rename_i q
     split at z
     ·rename_i lk
      rcases lk with lk | lk
      ·unfold cpy
       rw [q]
       dsimp only
       rw [if_neg (by rw [hH]; simp),h]
       dsimp only
       rw [if_pos lk]
      ·exact (n.st.tupNot hH lk).elim
     ·cases z
   ·exact (see_no z).elim
end
section
variable {D : Ends} {σ : L2.St} {H : Hp} {j : Nat}
theorem r_cnx (h : tDC j Dm.cNx D σ H) : tNext D σ H := by
 obtain ⟨σs,ρs,H0s,Hs,H0,ρ,p,o,n,e,k⟩ := h
 cases e
 exact k σ H0 H n (Same.refl _)
theorem r_cseq {s u : Dm.FC} (h : tDC j (Dm.cSeq s u) D σ H) : tSeq (tDC j s) (tDC j u) D σ H := by
 obtain ⟨σs,ρs,H0s,Hs,H0,ρ,p,o,n,e,k⟩ := h
 unfold Dm.cSeq at e
 split at e
 ·rename_i ρ1 p1 e1
  exact ⟨σs,ρs,H0s,Hs,H0,ρ,p,_,n,e1,fun σ' H0' H' n' s1 => ⟨σs,ρs,H0s,Hs,H0',ρ1,p1,o,n',e,k.up s1⟩⟩
 ·rename_i hn
  cases o with
  | nx ρ1 p1 => exact (hn _ _ e).elim
  | rt d ρ1 => exact ⟨σs,ρs,H0s,Hs,H0,ρ,p,_,n,e,k⟩
theorem r_cif {t : Dm.FT} {a b : Dm.FC} (h : tDC j (Dm.cIf j t a b) D σ H) : tIfS (tDT t) (tDC j a) (tDC j b) D σ H := by
 obtain ⟨σs,ρs,H0s,Hs,H0,ρ,p,o,n,e,k⟩ := h
 unfold Dm.cIf at e
 split at e
 ·cases e
 ·rename_i ρ1 e1
  refine ⟨_,_,true,ρ1,n.see,e1,fun H1 Hb t1 => ?_⟩
  dsimp only
  rw [if_pos rfl]
  exact ⟨σs,ρs,H0s,Hs,H0,ρ,p,o,n.grow (n.seen t1),e,k⟩
 ·rename_i ρ1 e1
  refine ⟨_,_,false,ρ1,n.see,e1,fun H1 Hb t1 => ?_⟩
  dsimp only
  rw [if_neg Bool.false_ne_true]
  exact ⟨σs,ρs,H0s,Hs,H0,ρ,p,o,n.grow (n.seen t1),e,k⟩
theorem r_crt {f : Dm.FE} (h : tDC j (Dm.cRt j f) D σ H) : tRet (tD f) D σ H := by
 obtain ⟨σs,ρs,H0s,Hs,H0,ρ,p,o,n,e,k⟩ := h
 unfold Dm.cRt at e
 split at e
 case h_2 => cases e
 rename_i d ρ1 e1
 split at e
 ·cases e
 rename_i nb
 cases e
 exact ⟨_,_,_,ρ1,n.see,e1,fun v H1 Hb t1 r1 => k σ v H0 Hb p (n.grow (n.seen t1)) (Rep.plain r1 (by simpa using nb))⟩
theorem r_ckeep {i : Nat} {f : Dm.FP} (h : tDC j (Dm.cKeep j i f) D σ H) : tAsg (tDp f) (gName i) D σ H := by
 obtain ⟨σs,ρs,H0s,Hs,H0,ρ,p,o,n,e,k⟩ := h
 unfold Dm.cKeep at e
 split at e
 ·cases e
 rename_i hij
 split at e
 ·cases e
 rename_i q ρ1 e1
 split at e
 case isFalse => cases e
 rename_i lk
 cases e
 refine ⟨_,_,_,ρ1,n.see,e1,fun v H1 Hb fq t1 r1 g1 => ?_⟩
 obtain ⟨n1,r⟩ := n.keep t1 r1 lk
 exact k _ _ Hb (n1.set (fun z => hij (.inl z)) (fun z => hij (.inr z)) r) cpy_up
theorem r_cfor {fi : Dm.FI} {bd : Dm.FB} {g : TG} {body : Dm.FC} {is : List Nat} (hb : BD is g bd) (hj : j ∉ is) (h : tDC j (Dm.cFor fi bd body) D σ H) : tFor (tDI fi) g (tDC j body) D σ H := by
 obtain ⟨σs,ρs,H0s,Hs,H0,ρ,p,o,n,e,k⟩ := h
 unfold Dm.cFor at e
 split at e
 ·cases e
 rename_i ys ρ1 e1
 refine ⟨H0,ρ,ys,ρ1,n.st,e1,fun J H00 Hb t1 jw => ?_⟩
 have k := k.up t1.stp.s0
 refine ⟨fun i m σ H => ∃ H0 ρ p,MS j σs ρs H0s Hs σ ρ H0 H p ∧ Same H00 H0 ∧ m = ys.length - i ∧ i ≤ ys.length ∧ Dm.cForD bd body (ys.drop i) ρ p = some o,
  ⟨ys.length,H00,ρ1,p,n.est t1,Same.refl _,by simp,Nat.zero_le _,by simpa using e⟩,?_⟩
 rintro i m σ H ⟨H0,ρ,p,n,s00,rfl,hi,e⟩
 obtain ⟨js,jg⟩ := jw H0 H s00 n.st.same
 by_cases hlt : i < ys.length
 ·have hd : ys[i]? = some ys[i] := by simp [hlt]
  obtain ⟨g1,g2⟩ := jg i ys[i] hd
  rw [List.drop_eq_getElem_cons hlt] at e
  unfold Dm.cForD at e
  refine .inr ⟨g1,fun σ' H' => ∃ H0 ρ p,MS j σs ρs H0s Hs σ' ρ H0 H' p ∧ Same H00 H0 ∧ Dm.cForD bd body (ys.drop (i + 1)) ρ p = some o,?_,fun x H' y => ?_⟩
  ·rintro σ' H' ⟨H0',ρ2,r2,h1,h2,h3⟩
   exact ⟨ys.length - (i + 1),by omega,H0',ρ2,r2,h1,h2,rfl,hlt,h3⟩
  ·obtain ⟨H0',gr,rx⟩ := g2 x H' y
   split at e
   ·cases e
   ·rename_i ρ2 e2
    have n2 := n.grow gr
    refine hb H0' H' σ ρ ρ2 x ys[i] _ n2.st rx e2 fun σ2 st2 o2 k2 _ f2 => ?_
    have n3 := n2.bind st2 o2 (k2 j hj) f2
    have s3 : Same H00 H0' := s00.trans gr.s0
    split at e
    ·rename_i ρ3 p3 e3
     exact ⟨σs,ρs,H0s,Hs,H0',ρ2,p,_,n3,e3,fun σ4 H4 Hd n4 s4 => ⟨H4,ρ3,p3,n4,s3.trans s4,e⟩⟩
    ·rename_i hn
     cases o with
     | nx ρ1 p1 => exact (hn _ _ e).elim
     | rt d ρ1 => exact ⟨σs,ρs,H0s,Hs,H0',ρ2,p,_,n3,e,k⟩
 ·have e' : i = ys.length := by omega
  subst e'
  rw [List.drop_length] at e
  cases e
  exact .inl ⟨js _ (Nat.le_refl _),k σ H0 H n s00⟩
theorem RepPs.put {N : Addr → Prop} {H0 H : Hp} {items : List Dm.Dp} : ∀ {vs : List V} {ps : List Dm.Dp} {fp : List Addr} {m : Nat},RepPs N H0 H vs ps fp → fp.Nodup → ps[m]? = some (.l items) →
  ∃ q xs,vs[m]? = some (.ref q) ∧ q ∈ fp ∧ H q = some (.lst xs) ∧ xs.length = items.length ∧ ∀ w d,Rep H0 w d → RepPs N H0 (upd H q (.lst (xs ++ [w]))) vs (ps.set m (.l (items ++ [.s d]))) fp
 | _,_,_,_,.nil,_,e => by simp at e
 | _,_,_,0,.cons h r,nd,e => by
  simp at e
  subst e
  cases h with
  | l n hq rs =>
   rename_i q xs f
   obtain ⟨nd1,nd2,nd3⟩ := List.nodup_append.mp nd
   refine ⟨q,xs,rfl,List.mem_append_left _ List.mem_cons_self,hq,rs.length,fun w d rw => ?_⟩
   have ne : ∀ (a : Addr),a ≠ q → upd H q (.lst (xs ++ [w])) a = H a := fun a z => upd_ne z
   refine .cons (.l n upd_same ?_) (r.mono (Same.refl _) (fun _ z => z) (fun a us _ z => ?_) fun a ha => ne a fun z => nd3 q List.mem_cons_self a ha z.symm)
   ·have t := rs.snoc (RepP.s (N := N) (H := H) rw)
    rw [List.append_nil] at t
    refine t.mono (Same.refl _) (fun _ z => z) (fun a us _ z => ?_) fun a ha => ne a fun z => (List.nodup_cons.mp nd1).1 (z ▸ ha)
    rw [ne a fun y => by rw [y,hq] at z; cases z]; exact z
   ·rw [ne a fun y => by rw [y,hq] at z; cases z]; exact z
 | _,_,_,m + 1,.cons h r,nd,e => by
  obtain ⟨nd1,nd2,nd3⟩ := List.nodup_append.mp nd
  obtain ⟨q,xs,h1,h2,h3,h4,h5⟩ := RepPs.put (m := m) r nd2 (by simpa using e)
  refine ⟨q,xs,by simpa using h1,List.mem_append_right _ h2,h3,h4,fun w d rw => ?_⟩
  refine .cons (h.mono (Same.refl _) (fun _ z => z) (fun a us _ z => ?_) fun a ha => upd_ne fun z => nd3 a ha q h2 z) (h5 w d rw)
  rw [upd_ne fun y => by rw [y,h3] at z; cases z]; exact z
theorem r_mSeq {s : Dm.FC} {g : Dm.FM} (h : tDM j (Dm.mSeq s g) D σ H) : tSeq (tDC j s) (tDM j g) D σ H := by
 obtain ⟨σs,ρs,H0s,Hs,H0,ρ,p,o,n,e,k⟩ := h
 unfold Dm.mSeq at e
 split at e
 ·rename_i ρ1 p1 e1
  exact ⟨σs,ρs,H0s,Hs,H0,ρ,p,_,n,e1,fun σ' H0' H' n' _ => ⟨σs,ρs,H0s,Hs,H0',ρ1,p1,o,n',e,k⟩⟩
 ·rename_i d ρ1 e1
  cases e
  exact ⟨σs,ρs,H0s,Hs,H0,ρ,p,_,n,e1,fun σ' v H0' H' p' n' r => k σ' v H0' H' n'.sst r fun d' a z => by cases z⟩
 ·cases e
end
section
variable {X : Cx} {st : Stmt} {rest : List Stmt} {fs gs : Dm.FC} {g : Dm.FM} {e c : Expr} {f : Dm.FE} {pos : Pos} {j : Nat}
theorem m_c (h : DC X j st fs) (hr : DMs X j rest g) : DMs X j (st :: rest) (Dm.mSeq fs g) := PSs.weak (pss_cons h hr) fun _ _ _ => r_mSeq
theorem c_nil : DCs X j [] Dm.cNx := PSs.weak pss_nil fun _ _ _ => r_cnx
theorem c_cons (h1 : DC X j st fs) (h2 : DCs X j rest gs) : DCs X j (st :: rest) (Dm.cSeq fs gs) := PSs.weak (pss_cons h1 h2) fun _ _ _ => r_cseq
theorem c_one (h1 : DC X j st fs) : DCs X j [st] fs := pss_one h1
theorem c_if {t : Dm.FT} {x y : List Stmt} (ht : DT X c t) (ha : DCs X j x fs) (hb : DCs X j y gs) : DC X j (.If c x y pos) (Dm.cIf j t fs gs) := PS.weak (ps_if ht ha hb) fun _ _ _ => r_cif
theorem c_rt (he : DE X e f) : DC X j (.Return (some e) pos) (Dm.cRt j f) := PS.weak (ps_ret he) fun _ _ _ => r_crt
theorem c_for {tg it : Expr} {fi : Dm.FI} {is : List Nat} {bd : Dm.FB} {body : List Stmt} (hp : PassesOwn (model X.prog X.w) X.A X.env X.xe) (hc : X.calm = true) (hi : DI X tg it fi) (hg : TG' X tg is bd) (hb : DCs X j body fs) (hj : decide (j ∈ is) = false := by rfl)
  (hs : ∀ x,foldedSetIterable it X.env x = pure x := by intro _; rfl) : DC X j (.For tg it body [] pos) (Dm.cFor fi bd fs) := by
 obtain ⟨g,h1,h2⟩ := hg.ex
 exact PS.weak (ps_for hp hc hi h1 hb hs) fun _ _ _ => r_cfor h2 (of_decide_eq_false hj)
theorem c_keep (i : Nat) {x : Str} {pos' : Pos} {fp : Dm.FP} (hN : X.N.Nodup) (he : DP X e fp) (hi : X.N[i]? = some x := by rfl) (hx : Loc X.env.scope x := by first | exact Or.inl rfl | exact Or.inr rfl) (hs : swapsWith e (some (.Name x pos')) pos.line X.env = pure false := by rfl)
  (hf : X.fn x = true ∨ X.env.scope.names.lookup x = some .local := by first | exact .inl rfl | exact .inr rfl | assumption) : DC X j (.Assign [.Name x pos'] e pos) (Dm.cKeep j i fp) := PS.weak (ps_set hN hi hx he hs hf) fun _ _ _ => r_ckeep
end
end Br
namespace Dm
def bQ (is : List Nat) (i : Nat) : FB := fun d ρ => match d with
 | .tup [.tup ys,x] => if i = 0 then none else (match sets is ys ρ with
  | none => none
  | some ρ1 => some (ρ1.set i (.sh x)))
 | _ => none
def pCall (f : List Dat → Option Dp) (as : List FE) : FP := fun ρ => match eAs as ρ with
 | none => none
 | some (xs,ρ1) => match tks ρ1 xs with
  | none => none
  | some (ds,ρ2) => match f ds with
   | none => none
   | some p => some (p,ρ2)
def pIx (f : FP) (z : Int) : FP := fun ρ => match f ρ with
 | some (.t xs,ρ1) => (match ixN xs.length z with
  | none => none
  | some m => match xs[m]? with
   | none => none
   | some x => some (x,ρ1))
 | _ => none
def qIfR (t : FT) (e : FE) (g : FSP) : FSP := fun ρ => match t ρ with
 | none => none
 | some (true,ρ1) => (match e ρ1 with
  | some (.val d,_) => some (.s d)
  | _ => none)
 | some (false,ρ1) => g ρ1
def sDeepK (j : Nat) (f : List Dat → Option Dp) (as : List FE) (g : FM) : FS := fun ρ => if j = 0 then none else match eAs as ρ with
 | none => none
 | some (xs,ρ1) => match pks ρ1 xs with
  | none => none
  | some ds => match f ds with
   | none => none
   | some p => if leafOk p then g (ρ1.set j .un) p else none
def mIfM (j : Nat) (t : FT) (ga g : FM) : FM := fun ρ p => match t (see j ρ p) with
 | none => none
 | some (true,_) => (match ga ρ p with
  | some (.nx _) => none
  | o => o)
 | some (false,_) => g ρ p
def cApp2 (j : Nat) (c : Int) (i e : FE) : FC := fun ρ p => match p with
 | .t xs => (match ixN xs.length c with
  | none => none
  | some m0 => match xs[m0]? with
   | some (.l rows) => (match i (see j ρ p) with
    | some (.val (.int k),_) => (match e (see j ρ p) with
     | some (.val d,_) => if isBox d then none else (match rowApp rows k d with
      | some rows' => some (.nx ρ (.t (xs.set m0 (.l rows'))))
      | none => none)
     | _ => none)
    | _ => none)
   | _ => none)
 | _ => none
def qNest (j : Nat) (it : FI) (own : Nat) (bd : FB) (loop : FN) : FSP := fun ρ => if j = 0 then none else match it ρ with
 | none => none
 | some (ds,ρ1) => if ds.length ≤ SZ then (match nMk bd ds (ρ1 ++ List.replicate own .un) with
  | none => none
  | some ρ2 => match loop ((ρ2.take ρ1.length).set j .un) (List.replicate ds.length []) with
   | none => none
   | some (_,r) => some (.l (r.map fun row => .l (row.map .s)))) else none
def eFP (f : List Dat → Option Dp) (as : List FE) : FE := fun ρ => match eAs as ρ with
 | none => none
 | some (xs,ρ1) => match pks ρ1 xs with
  | none => none
  | some ds => match f ds with
   | some (.l ps) => if leafOks ps then some (.new (.lst (Dp.dats ps)),ρ1) else none
   | _ => none
end Dm
namespace Br
open PySem PySem.Spec PyProof.Rows L2
theorem bd_pairQ {K : PySem.W.Frag} (is : List Nat) (i : Nat) {n : Nat} (hn : is.length = n) : BD (i :: is) (gTup K 2 (gCons (gTup K n (gNames is)) (gCons (gName i) gNil))) (Dm.bQ is i) := by
 intro H0 H σ ρ ρ' x d Q st r e k
 unfold Dm.bQ at e
 split at e
 ·rename_i ys dx
  split at e
  ·cases e
  rename_i hi0
  split at e
  ·cases e
  rename_i ρ1 e1
  cases e
  cases r with
  | tup q rs =>
   cases rs with
   | cons r2 rs =>
    cases rs with
    | cons r1 rs =>
     cases rs
     cases r2 with
     | tup q2 rs2 =>
      refine ⟨_,_,rfl,SqT.of (st.same _ _ q),rfl,_,_,rfl,?_⟩
      refine ⟨_,_,rfl,SqT.of (st.same _ _ q2),by rw [rs2.length,sets_len e1,hn],?_⟩
      refine sets_ok st rs2 e1 fun σ' st' o' n' d' f' => ⟨_,_,rfl,?_⟩
      refine ⟨rfl,k _ (st'.set_sh r1) (fun a z => o' a (owned_set_sh z)) (fun j hj => ?_) (fun j z => def_set (d' j z)) ((List.getElem?_set_ne hi0).trans f')⟩
      rw [List.getElem?_set_ne fun z => hj (by rw [z]; exact List.mem_cons_self)]
      exact n' j fun z => hj (List.mem_cons_of_mem _ z)
 ·cases e
theorem g_q (i : Nat) {X : Cx} {is : List Nat} {x : Str} {px : Pos} {es : List Expr} {k k2 : Nat} {tpos tpos2 : Pos} (hc : X.calm = true) (hN : X.N.Nodup) (hg : PGs X es (gNames is)) (hi : X.N[i]? = some x := by rfl) (hx : Loc X.env.scope x := by first | exact Or.inl rfl | exact Or.inr rfl)
  (hf : X.fn x = true ∨ X.env.scope.names.lookup x = some .local := by first | exact .inl rfl | exact .inr rfl | assumption) (hn : (assignEach es X.env).length = is.length := by rfl) (hst : (assignEach es X.env).findIdx? (·.1) = none := by rfl)
  (hs1 : (assignEach [.Tuple es k2 tpos2,.Name x px] X.env).map (·.2) = assign (.Tuple es k2 tpos2) X.env :: (assignEach [.Name x px] X.env).map (·.2) := by rfl) (hs2 : (assignEach [.Name x px] X.env).map (·.2) = assign (.Name x px) X.env :: (assignEach [] X.env).map (·.2) := by rfl)
  (hn2 : (assignEach [.Tuple es k2 tpos2,.Name x px] X.env).length = 2 := by rfl) (hst2 : (assignEach [.Tuple es k2 tpos2,.Name x px] X.env).findIdx? (·.1) = none := by rfl) : TG' X (.Tuple [.Tuple es k2 tpos2,.Name x px] k tpos) (i :: is) (Dm.bQ is i) :=
 ⟨⟨_,pg_tup hc (pgs_cons (pg_tup hc hg hn hst) (pgs_cons (pg_name hN hi hx hf) pgs_nil hs2) hs1) hn2 hst2,bd_pairQ is i rfl⟩⟩
theorem RepPs.getS {N : Addr → Prop} {H0 H : Hp} : ∀ {vs : List V} {ps : List Dm.Dp} {fp : List Addr} {i : Nat} {p : Dm.Dp},RepPs N H0 H vs ps fp → ps[i]? = some p → ∃ v f,vs[i]? = some v ∧ RepP N H0 H v p f ∧ f.Sublist fp
 | _,_,_,_,_,.nil,e => by simp at e
 | _,_,_,0,_,.cons h _,e => by simp at e; subst e; exact ⟨_,_,rfl,h,List.sublist_append_left _ _⟩
 | _,_,_,i + 1,_,.cons _ r,e => by
  obtain ⟨v,f,h1,h2,h3⟩ := RepPs.getS (i := i) r (by simpa using e)
  exact ⟨v,f,by simpa using h1,h2,h3.trans (List.sublist_append_right _ _)⟩
section
variable {σ : L2.St} {H : Hp} {Q : VK}
theorem r_pcall {f : List Dm.Dat → Option Dm.Dp} {fs : List Dm.FE} {E : XK} (h : tDp (Dm.pCall f fs) σ H Q) : tCall (spP f) [] E (tDA fs) σ H Q := by
 obtain ⟨H0,ρ,p,ρ',st,e,k⟩ := h
 unfold Dm.pCall at e
 split at e
 ·cases e
 rename_i xs ρ1 e1
 split at e
 ·cases e
 rename_i ds ρ2 e2
 split at e
 ·cases e
 rename_i p' ep
 cases e
 refine ⟨H0,ρ,xs,ρ1,st,e1,fun vs H1 Hb t1 r1 => ?_⟩
 dsimp only
 rw [List.append_nil]
 obtain ⟨H2,t2,b2,r2⟩ := takes t1 (Same.refl _) r1 e2
 refine ⟨H2,ds,p,t2.st.same,r2,ep,fun v H3 Hd fp g3 r3 nd n3 => ?_⟩
 exact k v H3 Hd fp (t2.trans (.grow t2.st g3)) (r3.mono (Same.refl _) (fun a n => .inl (t2.stp.gone n)) (fun _ _ _ h => h) fun _ _ => rfl) ⟨nd,fun a ha => ⟨n3 a ha,t2.st.notOwned (r3.fpN a ha).1⟩⟩
theorem r_pix {K : PySem.W.Frag} {f : Dm.FP} {z : Int} (h : tDp (Dm.pIx f z) σ H Q) : tOp (rIxT K) (tDp f) (tC (.int z)) σ H Q := by
 obtain ⟨H0,ρ,p,ρ',st,e,k⟩ := h
 unfold Dm.pIx at e
 split at e
 case h_2 => cases e
 rename_i xs ρ1 e1
 split at e
 ·cases e
 rename_i m em
 split at e
 ·cases e
 rename_i x hx
 cases e
 refine ⟨H0,ρ,_,_,st,e1,fun v H1 Hb fp t1 r1 g1 => ?_⟩
 cases r1 with
 | t hN ha rs =>
  rename_i a vs
  obtain ⟨u,f',hu,ru,sb⟩ := rs.getS hx
  refine ⟨a,vs,z,u,rfl,rfl,.of ha,?_,k u H1 Hb f' t1 ru ⟨g1.1.sublist sb,fun b hb => g1.2 b (sb.subset hb)⟩⟩
  show (L2.ixN vs.length z).bind (fun j => vs[j]?) = _
  rw [← ixN_eq,rs.length,em]
  exact hu
end
section
variable {D : Ends} {σ : L2.St} {H : Hp} {j : Nat}
theorem r_qIfR {t : Dm.FT} {f : Dm.FE} {g : Dm.FSP} (h : tDP (Dm.qIfR t f g) D σ H) : tSeq (tIfS (tDT t) (tRet (tD f)) tNext) (tDP g) D σ H := by
 obtain ⟨H0,ρ,p,st,e,k⟩ := h
 unfold Dm.qIfR at e
 split at e
 ·cases e
 ·rename_i ρ1 e1
  split at e
  case h_2 => cases e
  rename_i d ρ2 e2
  cases e
  refine ⟨H0,ρ,true,ρ1,st,e1,fun H1 Hb t1 => ?_⟩
  dsimp only
  rw [if_pos rfl]
  exact ⟨H1,ρ1,_,ρ2,t1.st,e2,fun v H2 Hc t2 r2 => k σ ρ2 v H2 Hc [] (t1.trans t2).sst (.s r2) List.nodup_nil fun a h => by cases h⟩
 ·rename_i ρ1 e1
  refine ⟨H0,ρ,false,ρ1,st,e1,fun H1 Hb t1 => ?_⟩
  dsimp only
  rw [if_neg Bool.false_ne_true]
  refine ⟨H1,ρ1,p,t1.st,e,fun σ' ρ' v H0' H' fp t r nd n => k σ' ρ' v H0' H' fp (t1.sst.trans t) ?_ nd n⟩
  exact r.mono (Same.refl _) (fun a z => NewE.back t1 z) (fun _ _ _ h => h) fun _ _ => rfl
theorem r_mIfM {t : Dm.FT} {ga g : Dm.FM} (h : tDM j (Dm.mIfM j t ga g) D σ H) : tSeq (tIfS (tDT t) (tDM j ga) tNext) (tDM j g) D σ H := by
 obtain ⟨σs,ρs,H0s,Hs,H0,ρ,p,o,n,e,k⟩ := h
 unfold Dm.mIfM at e
 split at e
 ·cases e
 ·rename_i ρ1 e1
  refine ⟨_,_,true,ρ1,n.see,e1,fun H1 Hb t1 => ?_⟩
  dsimp only
  rw [if_pos rfl]
  have n1 := n.grow (n.seen t1)
  split at e
  ·cases e
  ·rename_i hn
   refine ⟨σs,ρs,H0s,Hs,H0,ρ,p,o,n1,e,?_⟩
   cases o with
   | nx ρ' => exact (hn ρ' e).elim
   | bk ρ' => exact k
   | ct ρ' => exact k
   | ret z ρ' => exact k
 ·rename_i ρ1 e1
  refine ⟨_,_,false,ρ1,n.see,e1,fun H1 Hb t1 => ?_⟩
  dsimp only
  rw [if_neg Bool.false_ne_true]
  exact ⟨σs,ρs,H0s,Hs,H0,ρ,p,o,n.grow (n.seen t1),e,k⟩
end
mutual
theorem RepP.leaf {N N' : Addr → Prop} {H3 H0' H : Hp} (kn : ∀ a,N a → N' a) (kt : ∀ a vs,H3 a = some (.tup vs) → H0' a = some (.tup vs)) : ∀ {v : V} {p : Dm.Dp} {fp : List Addr},RepP N H3 H v p fp → Dm.leafOk p = true → RepP N' H0' H v p fp
 | _,_,_,.s r,e => .s (Rep.thin kt r (by unfold Dm.leafOk at e; exact e))
 | _,_,_,.l n h r,e => .l (kn _ n) h (RepPs.leaf kn kt r (by unfold Dm.leafOk at e; exact e))
 | _,_,_,.t n h r,e => .t (kn _ n) h (RepPs.leaf kn kt r (by unfold Dm.leafOk at e; exact e))
theorem RepPs.leaf {N N' : Addr → Prop} {H3 H0' H : Hp} (kn : ∀ a,N a → N' a) (kt : ∀ a vs,H3 a = some (.tup vs) → H0' a = some (.tup vs)) : ∀ {vs : List V} {ps : List Dm.Dp} {fp : List Addr},RepPs N H3 H vs ps fp → Dm.leafOks ps = true → RepPs N' H0' H vs ps fp
 | _,_,_,.nil,_ => .nil
 | _,_,_,.cons h r,e => by
  unfold Dm.leafOks at e
  rw [Bool.and_eq_true] at e
  exact .cons (RepP.leaf kn kt h e.1) (RepPs.leaf kn kt r e.2)
end
theorem look_bor {Hs H0 H : Hp} {σ : L2.St} {ρ : Dm.Env} (st : RepSt H0 H σ ρ) : ∀ {xs : List Dm.Val} {vs : List V} {ds : List Dm.Dat},RepVs Hs H0 H σ ρ vs xs → Dm.pks ρ xs = some ds → Reps (bor H0 H (Look Hs σ ρ)) vs ds
 | [],_,ds,.nil,e => by cases e; exact .nil
 | x :: xs,_,ds,.cons h r,e => by
  unfold Dm.pks at e
  split at e
  ·cases e
  rename_i d e1
  split at e
  ·cases e
  rename_i ds' e2
  cases e
  refine .cons ?_ (look_bor st r e2)
  have own : ∀ (a : Addr),Look Hs σ ρ a → Own H0 H a d → Rep (bor H0 H (Look Hs σ ρ)) (.ref a) d := fun a lk w => by
   cases d with
   | lst ds => obtain ⟨xs,y,rs⟩ := w; exact .lst (.inl (bor_in st.same lk y)) (rs.mono bor_up)
   | dct ks ds => obtain ⟨xs,y,k,rs⟩ := w; exact .dct (bor_in st.same lk y) k (rs.mono bor_up)
   | _ => exact w.elim
  cases x with
  | val d' => cases e1; exact Rep.mono bor_up h
  | new d' =>
   cases e1
   obtain ⟨a,rfl,n,no,n0,w⟩ := h
   exact own a (.inl n) w
  | slot i =>
   obtain ⟨q,_⟩ := h
   unfold Dm.pk at e1
   dsimp only at e1
   split at e1
   ·rename_i d' hd
    cases e1
    obtain ⟨a,w1,w2,w3⟩ := st.ow i _ hd
    rw [q] at w1
    cases w1
    exact own a (.inr ⟨i,_,hd,q⟩) w3
   ·rename_i d' hd
    cases e1
    obtain ⟨u,w1,w2⟩ := st.sh i _ hd
    rw [q] at w1
    cases w1
    exact w2.mono bor_up
   ·cases e1
section
variable {D : Ends} {σ : L2.St} {H : Hp} {j : Nat}
theorem r_deepK {f : List Dm.Dat → Option Dm.Dp} {fs : List Dm.FE} {g : Dm.FM} {E : XK} (hj : j < σ.length) (h : tDS (Dm.sDeepK j f fs g) D σ H) : tSeq (tAsg (tCall (spP f) [] E (tDA fs)) (gName j)) (tDM j g) D σ H := by
 obtain ⟨H0,ρ,o,st,e,k⟩ := h
 unfold Dm.sDeepK at e
 split at e
 ·cases e
 rename_i hj0
 split at e
 ·cases e
 rename_i xs ρ1 e1
 split at e
 ·cases e
 rename_i ds e2
 split at e
 ·cases e
 rename_i p ep
 split at e
 case isFalse => cases e
 rename_i lk
 refine ⟨H0,ρ,xs,ρ1,st,e1,fun vs H1 Hb t1 r1 => ?_⟩
 dsimp only
 rw [List.append_nil]
 refine ⟨bor H1 Hb (Look H σ ρ1),ds,p,bor_sub t1.st.same,look_bor t1.st r1 e2,ep,fun v H3 Hd fp g3 r3 nd n3 => ?_⟩
 have up : Same Hb Hd := g3.s1
 have cpE : ∀ {a : Addr} {u : HO},cpy H H1 Hb H3 Hd a = some u → H1 a = some u ∨ (Hb a = none ∧ Hd a = some u) ∨ (H a = none ∧ H3 a = some u ∧ ∃ vs,u = .tup vs) := fun e => cpy_cases e
 have kt : ∀ a us,H3 a = some (.tup us) → cpy H H1 Hb H3 Hd a = some (.tup us) := fun a us h => by
  rcases g3.s2 a _ h with z | z
  ·rw [cpy_new t1.st.same z]; exact g3.s3 _ _ h
  ·have hH := bor_sub t1.st.same _ _ z
   unfold bor at z
   split at z
   ·rename_i o q; cases z; exact cpy_up _ _ q
   ·rename_i q
    split at z
    ·rename_i lk
     rcases lk with lk | lk
     ·unfold cpy
      rw [q]
      dsimp only
      rw [if_neg (by rw [hH]; simp),h]
      dsimp only
      rw [if_pos lk]
     ·exact (t1.st.tupNot hH lk).elim
    ·cases z
 have lst : ∀ {a : Addr} {u : HO},H1 a = none → Hb a = some u → (∀ us,u ≠ .tup us) → cpy H H1 Hb H3 Hd a = none := fun {a u} h0 h nt => by
  cases z : cpy H H1 Hb H3 Hd a with
  | none => rfl
  | some w =>
   rcases cpE z with y | ⟨y,_⟩ | ⟨_,y,us,rfl⟩
   ·rw [h0] at y; cases y
   ·rw [h] at y; cases y
   ·have := g3.s3 _ _ y
    rw [up _ _ h] at this
    cases this
    exact absurd rfl (nt us)
 let H4 : Hp := fun a => if a ∈ fp then none else cpy H H1 Hb H3 Hd a
 have h4 : ∀ {a : Addr} {u : HO},H4 a = some u → cpy H H1 Hb H3 Hd a = some u ∧ a ∉ fp := fun {a u} e => by
  show cpy H H1 Hb H3 Hd a = some u ∧ _
  have e : (if a ∈ fp then none else cpy H H1 Hb H3 Hd a) = some u := e
  split at e
  ·cases e
  ·rename_i h; exact ⟨e,h⟩
 have h4i : ∀ {a : Addr} {u : HO},cpy H H1 Hb H3 Hd a = some u → a ∉ fp → H4 a = some u := fun {a u} e n => by
  show (if a ∈ fp then none else cpy H H1 Hb H3 Hd a) = some u
  rw [if_neg n]; exact e
 have nfp : ∀ a ∈ fp,Hb a = none ∧ ∃ ys,Hd a = some (.lst ys) := fun a ha => r3.fpN a ha
 have up4 : Same H1 H4 := fun a u e' => h4i (cpy_up _ _ e') fun z => by have := t1.st.same _ _ e'; rw [(nfp a z).1] at this; cases this
 have st4 : RepSt H4 Hd σ ρ1 := by
  refine ⟨fun a u e' => ?_,t1.st.len,fun i d h => ?_,fun i d h => ?_,t1.st.dis⟩
  ·rcases cpE (h4 e').1 with y | ⟨_,y⟩ | ⟨_,y,_⟩
   ·exact up _ _ (t1.st.same _ _ y)
   ·exact y
   ·exact g3.s3 _ _ y
  ·obtain ⟨u,z,y⟩ := t1.st.sh i d h
   exact ⟨u,z,y.mono up4⟩
  ·obtain ⟨a,z,n0,y⟩ := t1.st.ow i d h
   obtain ⟨w,hw⟩ := y.some
   refine ⟨a,z,?_,y.mono up4 ((up _ _ hw).trans hw.symm)⟩
   have := lst n0 hw fun us e' => by subst e'; exact t1.st.tupNot hw ⟨i,d,h,z⟩
   show (if a ∈ fp then none else cpy H H1 Hb H3 Hd a) = none
   rw [this]
   split <;> rfl
 obtain ⟨s1,s2⟩ := st4.set_un j (some v)
 refine ⟨σ,ρ,H0,H,H4,_,p,o,⟨s1,⟨t1.stp.s0.trans up4,fun a u e' no => up _ _ (t1.stp.s1 a u e' no),fun a u e' => ?_,fun a u e' => ?_⟩,fun a z => .inl (t1.own a (s2 a z)),List.getElem?_set_ne hj0,v,fp,List.getElem?_set_self hj,r3.leaf (fun a n => t1.stp.gone n) (fun a us h => h4i (kt a us h) fun z => ?_) lk,nd,fun a ha => ⟨?_,fun z => t1.st.notOwned (nfp a ha).1 (s2 a z)⟩⟩,e,k⟩
 ·rcases cpE (h4 e').1 with y | ⟨y,_⟩ | ⟨y,_⟩
  ·exact t1.stp.s2 a u y
  ·exact .inl (t1.stp.gone y)
  ·exact .inl y
 ·obtain ⟨o',q⟩ := t1.stp.s3 a u e'
  exact ⟨o',up _ _ q⟩
 ·obtain ⟨_,ys,y⟩ := nfp a z
  have := g3.s3 _ _ h
  rw [y] at this
  cases this
 ·show (if a ∈ fp then none else cpy H H1 Hb H3 Hd a) = none
  rw [if_pos ha]
theorem RepPs.change {N : Addr → Prop} {H0 H : Hp} {x : Dm.Dp} : ∀ {vs : List V} {ps : List Dm.Dp} {fp : List Addr} {m : Nat},RepPs N H0 H vs ps fp → fp.Nodup → ps[m]? = some x →
  ∃ v f,vs[m]? = some v ∧ RepP N H0 H v x f ∧ (∀ a ∈ f,a ∈ fp) ∧ f.Nodup ∧ ∀ q o x' ls,q ∈ f → H q = some (.lst ls) → RepP N H0 (upd H q o) v x' f → RepPs N H0 (upd H q o) vs (ps.set m x') fp
 | _,_,_,_,.nil,_,e => by simp at e
 | _,_,_,0,.cons h r,nd,e => by
  simp at e
  subst e
  obtain ⟨nd1,nd2,nd3⟩ := List.nodup_append.mp nd
  refine ⟨_,_,rfl,h,fun a ha => List.mem_append_left _ ha,nd1,fun q o x' ls hq hl h' => .cons h' (r.mono (Same.refl _) (fun _ z => z) (fun a us _ z => ?_) fun a ha => upd_ne fun z => nd3 q hq a ha z.symm)⟩
  rw [upd_ne fun y => by rw [y,hl] at z; cases z]; exact z
 | _,_,_,m + 1,.cons h r,nd,e => by
  obtain ⟨nd1,nd2,nd3⟩ := List.nodup_append.mp nd
  obtain ⟨v,f,h1,h2,h3,h4,h5⟩ := RepPs.change (m := m) r nd2 (by simpa using e)
  refine ⟨v,f,by simpa using h1,h2,fun a ha => List.mem_append_right _ (h3 a ha),h4,fun q o x' ls hq hl h' => .cons (h.mono (Same.refl _) (fun _ z => z) (fun a us _ z => ?_) fun a ha => upd_ne fun z => nd3 a ha q (h3 q hq) z) (h5 q o x' ls hq hl h')⟩
  rw [upd_ne fun y => by rw [y,hl] at z; cases z]; exact z
theorem r_capp2 {K : PySem.W.Frag} {c : Int} {fi f : Dm.FE} (h : tDC j (Dm.cApp2 j c fi f) D σ H) : tDrop (tBM K "list" rAppend (tOp (rIxL K) (tOp (rIxT K) (tVar j) (tC (.int c))) (tD fi)) (tDA [f])) D σ H := by
 obtain ⟨σs,ρs,H0s,Hs,H0,ρ,p,o,n,e,k⟩ := h
 unfold Dm.cApp2 at e
 split at e
 case h_2 => cases e
 rename_i xs
 split at e
 ·cases e
 rename_i m0 em0
 split at e
 case h_2 => cases e
 rename_i rows hrows
 split at e
 case h_2 => cases e
 rename_i z ρ1 e1
 split at e
 case h_2 => cases e
 rename_i d ρ2 e2
 split at e
 ·cases e
 rename_i nb
 split at e
 case h_2 => cases e
 rename_i rows' er
 cases e
 unfold Dm.rowApp at er
 split at er
 ·cases er
 rename_i m em
 split at er
 case h_2 => cases er
 rename_i items hi
 split at er
 case isFalse => cases er
 rename_i hz
 cases er
 have key : ∀ {Hx : Hp},MS j σs ρs H0s Hs σ ρ H0 Hx (.t xs) → ∃ (A L q : Addr) (us vs ls : List V),σ[j]? = some (some (.ref A)) ∧ Hx A = some (.tup us) ∧ us.length = xs.length ∧ us[m0]? = some (.ref L) ∧ Hx L = some (.lst vs) ∧ vs.length = rows.length ∧ vs[m]? = some (.ref q) ∧ Hx q = some (.lst ls) ∧ ls.length = items.length ∧
   ∀ w,Rep H0 w d → MS j σs ρs H0s Hs σ ρ H0 (upd Hx q (.lst (ls ++ [w]))) (.t (xs.set m0 (.l (rows.set m (.l (items ++ [.s d])))))) := fun {Hx} nx => by
  obtain ⟨v,fp,q1,q2,q3⟩ := nx.ex
  cases q2 with
  | t nA hA rs =>
   rename_i A us
   obtain ⟨v',f',c1,c2,c3,c4,c5⟩ := rs.change q3.1 hrows
   cases c2 with
   | l nL hL rl =>
    rename_i L vs fl
    obtain ⟨q,ls,w1,w2,w3,w4,w5⟩ := rl.put (List.nodup_cons.mp c4).2 hi
    have qm := List.mem_cons_of_mem L w2
    obtain ⟨z1,z2⟩ := q3.2 q (c3 q qm)
    have neL : L ≠ q := fun y => (List.nodup_cons.mp c4).1 (y ▸ w2)
    refine ⟨A,L,q,us,vs,ls,q1,hA,rs.length,c1,hL,rl.length,w1,w3,w4,fun w rw => ?_⟩
    have t := nx.wr (rl.fpN q w2).1 z1 z2 (.lst (ls ++ [w]))
    have neA : A ≠ q := fun y => by rw [y,w3] at hA; cases hA
    exact ⟨t.st,t.stp,t.own,t.fx,_,fp,q1,.t nA (by rw [upd_ne neA]; exact hA) (c5 q _ _ ls qm w3 (.l nL (by rw [upd_ne neL]; exact hL) (w5 w d rw))),q3⟩
 obtain ⟨A,L,q,us,vs,ls,k1,k2,k3,k4,k5,k6,k7,k8,k9,_⟩ := key n
 refine ⟨_,k1,A,us,c,.ref L,rfl,rfl,.of k2,?_,?_⟩
 ·show (L2.ixN us.length c).bind (fun j => us[j]?) = _
  rw [k3,← ixN_eq,em0]
  exact k4
 refine ⟨_,_,_,ρ1,n.see,e1,fun y H1 Hb t1 r1 => ?_⟩
 have g1 := n.seen t1
 have n1 := n.grow g1
 refine ⟨L,vs,z,.ref q,rfl,Rep.isInt r1,.inl (.inl (g1.s1 _ _ k5)),?_,.inl ⟨rfl,ls,.inl (.inl (g1.s1 _ _ k8))⟩,?_⟩
 ·show (L2.ixN vs.length z).bind (fun j => vs[j]?) = _
  rw [k6,← ixN_eq,em]
  exact k7
 refine ⟨_,_,[.val d],ρ2,n1.see,by unfold Dm.eAs; rw [e2]; rfl,fun ws H2 Hc t2 r2 => ?_⟩
 cases r2 with
 | cons r rr =>
  cases rr
  rename_i wv
  have g2 := n1.seen t2
  have n2 := n1.grow g2
  have rp : Rep H0 wv d := Rep.plain r (by simpa using nb)
  obtain ⟨A',L',q',us',vs',ls',j1,j2,j3,j4,j5,j6,j7,j8,j9,jk⟩ := key n2
  rw [k1] at j1
  cases j1
  have g := g1.trans g2
  have eu : us' = us := by have := g.s1 _ _ k2; rw [j2] at this; cases this; rfl
  subst eu
  rw [k4] at j4
  cases j4
  have ev : vs' = vs := by have := g.s1 _ _ k5; rw [j5] at this; cases this; rfl
  subst ev
  rw [k7] at j7
  cases j7
  have el : ls' = ls := by have := g.s1 _ _ k8; rw [j8] at this; cases this; rfl
  subst el
  exact ⟨q,ls',_,rfl,rfl,j8,by rw [j9]; exact Nat.lt_of_lt_of_le hz (by decide),k σ H0 _ (jk wv rp) (Same.refl _)⟩
end
section
variable {X : Cx} {e c : Expr} {es : List Expr} {rest : List Stmt} {fs : List Dm.FE} {f : Dm.FE} {fp : Dm.FP} {gq : Dm.FSP} {g ga : Dm.FM} {pos p : Pos} {j : Nat}
theorem p_call {k : Nat} {F : Addr} {fd : FuncData} {ps : List Str} {h : List Dm.Dat → Option Dm.Dp} {x : Str} (G : FnOk X.prog X.w X.K X.mg X.base CX0 k F fd ps (spP h)) (hr : Room k X.A) (hg : Gl X x) (hm : X.mg x = some (.ref F)) (hk : PySem.W.keepIn X.K (.ref F) = true) (hb : Binds X.K fd ps [])
  (ha : DA X (e :: es) fs) (hdb : (x == ("__debug__" : Str)) = false := by decide) (he : starEach (e :: es) X.env = (false, eval e X.env) :: starEach es X.env := by rfl) (hpl : (backTo pos (starEach es X.env)).any (·.1) = false := by rfl) :
  DP X (.Call (.Name x p) (e :: es) [] pos) (Dm.pCall h fs) := PE.weak (pe_call G hr hg hm hk hb .nil (pass0 (X := X)) ha hdb he hpl) fun _ _ _ => r_pcall
theorem p_ix {i : Int} {jc} {ip : Pos} (h : DP X e fp) (hs : PlainIx (.Constant (.int i) jc ip) := by intro _ _; rfl) : DP X (.Subscript e (.Constant (.int i) jc ip) pos) (Dm.pIx fp i) := PE.weak (pe_ix ix_tup h pe_int hs) fun _ _ _ => r_pix
theorem q_ifR {t : Dm.FT} {pos' : Pos} (ht : DT X c t) (he : DE X e f) (hr : DQs X rest gq) : DQs X (.If c [.Return (some e) pos'] [] pos :: rest) (Dm.qIfR t f gq) := PSs.weak (pss_cons (ps_if ht (pss_one (ps_ret he)) pss_nil) hr) fun _ _ _ => r_qIfR
theorem m_ifM {t : Dm.FT} {x : List Stmt} (ht : DT X c t) (ha : DMs X j x ga) (hr : DMs X j rest g) : DMs X j (.If c x [] pos :: rest) (Dm.mIfM j t ga g) := PSs.weak (pss_cons (ps_if ht ha pss_nil) hr) fun _ _ _ => r_mIfM
theorem c_app2 {x : Str} {i : Expr} {fi : Dm.FE} {px sp sp2 ap cp ip : Pos} {z : Int} {jc} (hi' : DE X i fi) (he : DE X e f) (hi : X.N[j]? = some x := by rfl) (hv : Vis X.env.scope x := by first | exact Or.inl rfl | exact Or.inr (Or.inl rfl) | exact Or.inr (Or.inr rfl)) (hd : (x == ("__debug__" : Str)) = false := by decide)
  (hcd : (x == ("__classdict__" : Str)) = false := by decide) (hpl : PlainIx i := by intro _ _; rfl) (hpz : PlainIx (.Constant (.int z) jc ip) := by intro _ _; rfl) (hbase : attributeBase (.Subscript (.Subscript (.Name x px) (.Constant (.int z) jc ip) sp2) i sp) "append" X.env (eval (.Subscript (.Subscript (.Name x px) (.Constant (.int z) jc ip) sp2) i sp) X.env) = eval (.Subscript (.Subscript (.Name x px) (.Constant (.int z) jc ip) sp2) i sp) X.env := by rfl)
  (hfew : ((backTo cp (starEach [e] X.env)).all (fun x => !x.1) && (backToKw cp (keywordEach [] X.env)).all (fun x => x.1.isSome)
   && decide ([e].length + ([] : List Keyword).length + (if ([] : List Keyword).isEmpty then 0 else 1) < 30)) = true := by rfl)
  (hline : (ap.endLine == cp.line) = true := by rfl) (hs : starEach [e] X.env = (false,eval e X.env) :: starEach [] X.env := by rfl) (hplain : (backTo cp (starEach [] X.env)).any (·.1) = false := by rfl)
  (hsw : swapsWith (.Call (.Attribute (.Subscript (.Subscript (.Name x px) (.Constant (.int z) jc ip) sp2) i sp) "append" ap) [e] [] cp) none pos.line X.env = pure false := by rfl) :
  DC X j (.Expr (.Call (.Attribute (.Subscript (.Subscript (.Name x px) (.Constant (.int z) jc ip) sp2) i sp) "append" ap) [e] [] cp) pos) (Dm.cApp2 j z fi f) :=
 PS.weak (ps_expr (pe_bm PySem.F.plainAttrs_list PySem.F.slot_list_append PySem.F.type_list_append mt_append (pe_ix ix_list (pe_ix ix_tup (pe_var hi hv hd hcd) pe_int hpz) hi' hpl) (a_cons he a_nil hs) hbase hfew hline hs hplain) hsw) fun _ _ _ => r_capp2
theorem s_deepK (j : Nat) {k : Nat} {F : Addr} {fd : FuncData} {ps : List Str} {f : List Dm.Dat → Option Dm.Dp} {x y : Str} {as : List Dm.FE} {pos' cpos : Pos} (hN : X.N.Nodup) (G : FnOk X.prog X.w X.K X.mg X.base CX0 k F fd ps (spP f)) (hr : Room k X.A) (hg : Gl X x) (hm : X.mg x = some (.ref F)) (hk : PySem.W.keepIn X.K (.ref F) = true) (hb : Binds X.K fd ps [])
  (ha : DA X (e :: es) as) (hre : DMs X j rest g) (hi : X.N[j]? = some y := by rfl) (hx : Loc X.env.scope y := by first | exact Or.inl rfl | exact Or.inr rfl) (hs : swapsWith (.Call (.Name x p) (e :: es) [] cpos) (some (.Name y pos')) pos.line X.env = pure false := by rfl)
  (hf : X.fn y = true ∨ X.env.scope.names.lookup y = some .local := by first | exact .inl rfl | exact .inr rfl | assumption) (hdb : (x == ("__debug__" : Str)) = false := by decide) (he : starEach (e :: es) X.env = (false, eval e X.env) :: starEach es X.env := by rfl) (hpl : (backTo cpos (starEach es X.env)).any (·.1) = false := by rfl) :
  DSs X (.Assign [.Name y pos'] (.Call (.Name x p) (e :: es) [] cpos) pos :: rest) (Dm.sDeepK j f as g) := by
 have h := pss_cons (ps_set hN hi hx (pe_call G hr hg hm hk hb .nil (pass0 (X := X)) ha hdb he hpl) hs hf) hre
 intro pins s σ H D I q
 exact h pins s σ H D I (r_deepK (by rw [I.len]; exact (List.getElem?_eq_some_iff.mp hi).1) q)
end
theorem RowsOk.repP {N : Addr → Prop} {H0 H : Hp} : ∀ {ps : List Addr} {rows : List (List Dm.Dat)},RowsOk H0 H ps rows → (∀ p ∈ ps,N p) → RepPs N H0 H (ps.map V.ref) (rows.map fun r => .l (r.map .s)) ps
 | [],[],_,_ => .nil
 | p :: ps,r :: rs,h,n => by
  obtain ⟨⟨xs,h1,h2⟩,h3⟩ := h
  exact .cons (.l (n p List.mem_cons_self) h1 (.of_reps h2)) (RowsOk.repP h3 fun q hq => n q (List.mem_cons_of_mem _ hq))
theorem r_qNest {σ : L2.St} {H : Hp} {D : Ends} {j own : Nat} {fi : Dm.FI} {bd : Dm.FB} {g : TG} {is : List Nat} {loop : Dm.FN} (hb : BD is g bd) (hl : ∀ i ∈ is,σ.length ≤ i) (hj : j < σ.length) (h : tDP (Dm.qNest j fi own bd loop) D σ H) :
  tSeq (tAsg (tLC (tDI fi) own g tYes (tLst tNil)) (gName j)) (tSeq (tDN j loop) (tRet (tVar j))) D σ H := by
 obtain ⟨H0,ρ,p,st,e,k⟩ := h
 unfold Dm.qNest at e
 split at e
 ·cases e
 rename_i hj0
 split at e
 ·cases e
 rename_i ds ρ1 e1
 split at e
 case isFalse => cases e
 rename_i hsz
 split at e
 ·cases e
 rename_i ρ2 e2
 split at e
 ·cases e
 rename_i ρ3 r3 e3
 cases e
 refine ⟨H0,ρ,ds,ρ1,st,e1,fun J H00 Hb t1 jw L hL => nest_run (Q := fun x H1 => gName j x σ H1 (tSeq (tDN j loop) (tRet (tVar j)) D)) hb hl t1.st jw hsz e2 L hL fun H0' H' ps st' sp' ho' hDl n0 nd hps hro => ?_⟩
 have nL : ¬ Owned σ ρ1 L := t1.st.notOwned hL
 obtain ⟨st2,om⟩ := st'.set_un j (some (.ref L))
 have sp : Stp (Owned σ ρ) H0 H H0' H' := t1.stp.trans sp' fun a z => .inl (t1.own a z)
 have n : NS j σ ρ H0 H (σ.set j (some (.ref L))) ((ρ2.take ρ1.length).set j .un) H0' H' (List.replicate ds.length []) :=
  ⟨st2,sp,fun a z => .inl (t1.own a (ho' a (om a z))),List.getElem?_set_ne hj0,L,ps,List.getElem?_set_self hj,t1.stp.gone hL,n0,fun z => nL (ho' L (om L z)),hDl,nd,fun p hp => ⟨t1.stp.gone (hps p hp).1,(hps p hp).2,fun z => t1.st.notOwned (hps p hp).1 (ho' p (om p z))⟩,hro⟩
 refine ⟨σ,ρ,H0,H,H0',_,_,ρ3,r3,n,e3,fun σ4 H4 Hd n4 _ => ?_⟩
 obtain ⟨L4,ps4,w1,w2,w3,w4,w5,w6,w7,w8⟩ := n4.ex
 refine ⟨_,w1,k σ4 ρ3 _ H4 Hd (L4 :: ps4) ⟨n4.st,n4.stp,n4.own,n4.fx⟩ (.l (.inl w2) w5 (w8.repP fun p hp => .inl (w7 p hp).1)) w6 fun a ha => ?_⟩
 rcases List.mem_cons.mp ha with rfl | ha
 ·exact w3
 ·exact (w7 a ha).2.1
mutual
theorem RepP.share {N : Addr → Prop} {H3 H5 H : Hp} (kt : ∀ a us,N a → H a = some (.tup us) → H5 a = some (.tup us)) (ks : ∀ a us,H3 a = some (.tup us) → H5 a = some (.tup us)) : ∀ {v : V} {p : Dm.Dp} {fp : List Addr},RepP N H3 H v p fp → (∀ a ∈ fp,H5 a = H a) → Dm.leafOk p = true → Rep H5 v p.dat
 | _,_,_,.s r,_,e => Rep.thin ks r (by unfold Dm.leafOk at e; exact e)
 | _,_,_,.l n h r,k,e => .lst (.inl ((k _ List.mem_cons_self).trans h)) (RepPs.share kt ks r (fun a ha => k a (List.mem_cons_of_mem _ ha)) (by unfold Dm.leafOk at e; exact e))
 | _,_,_,.t n h r,k,e => .tup (kt _ _ n h) (RepPs.share kt ks r k (by unfold Dm.leafOk at e; exact e))
theorem RepPs.share {N : Addr → Prop} {H3 H5 H : Hp} (kt : ∀ a us,N a → H a = some (.tup us) → H5 a = some (.tup us)) (ks : ∀ a us,H3 a = some (.tup us) → H5 a = some (.tup us)) : ∀ {vs : List V} {ps : List Dm.Dp} {fp : List Addr},RepPs N H3 H vs ps fp → (∀ a ∈ fp,H5 a = H a) → Dm.leafOks ps = true → Reps H5 vs (Dm.Dp.dats ps)
 | _,_,_,.nil,_,_ => .nil
 | _,_,_,.cons h r,k,e => by
  unfold Dm.leafOks at e
  rw [Bool.and_eq_true] at e
  exact .cons (RepP.share kt ks h (fun a ha => k a (List.mem_append_left _ ha)) e.1) (RepPs.share kt ks r (fun a ha => k a (List.mem_append_right _ ha)) e.2)
end
theorem r_eFP {σ : L2.St} {H : Hp} {Q : VK} {f : List Dm.Dat → Option Dm.Dp} {fs : List Dm.FE} {E : XK} (h : tD (Dm.eFP f fs) σ H Q) : tCall (spP f) [] E (tDA fs) σ H Q := by
 obtain ⟨H0,ρ,x,ρ',st,e,k⟩ := h
 unfold Dm.eFP at e
 split at e
 ·cases e
 rename_i xs ρ1 e1
 split at e
 ·cases e
 rename_i ds e2
 split at e
 case h_2 => cases e
 rename_i ps ep
 split at e
 case isFalse => cases e
 rename_i lk
 cases e
 refine ⟨H0,ρ,xs,_,st,e1,fun vs H1 Hb t1 r1 => ?_⟩
 dsimp only
 rw [List.append_nil]
 refine ⟨bor H1 Hb (Look H σ ρ'),ds,.l ps,bor_sub t1.st.same,look_bor t1.st r1 e2,ep,fun v H3 Hd fp g3 r3 nd n3 => ?_⟩
 have up : Same Hb Hd := g3.s1
 cases r3 with
 | l na ha rs =>
  rename_i a us fq
  obtain ⟨nd1,nd2⟩ := List.nodup_cons.mp nd
  let H4 : Hp := fun b => if b = a then none else cpy H H1 Hb H3 Hd b
  have h4 : ∀ {b : Addr} {u : HO},H4 b = some u → cpy H H1 Hb H3 Hd b = some u ∧ b ≠ a := fun {b u} e => by
   have e : (if b = a then none else cpy H H1 Hb H3 Hd b) = some u := e
   split at e
   ·cases e
   ·rename_i h; exact ⟨e,h⟩
  have h4e : ∀ {b : Addr},b ≠ a → H4 b = cpy H H1 Hb H3 Hd b := fun {b} n => by
   show (if b = a then none else cpy H H1 Hb H3 Hd b) = _
   rw [if_neg n]
  have up4 : Same H1 H4 := fun b u e' => by
   rw [h4e fun z => by subst z; have := t1.st.same _ _ e'; rw [na] at this; cases this]
   exact cpy_up _ _ e'
  have ks : ∀ b us,H3 b = some (.tup us) → H4 b = some (.tup us) := fun b us h => by
   have hd := g3.s3 _ _ h
   rw [h4e fun z => by subst z; rw [ha] at hd; cases hd]
   rcases g3.s2 b _ h with z | z
   ·rw [cpy_new t1.st.same z]; exact hd
   ·have hH := bor_sub t1.st.same _ _ z
    unfold bor at z
    split at z
    ·rename_i o q; cases z; exact cpy_up _ _ q
    ·rename_i q
     split at z
     ·rename_i lk
      rcases lk with lk | lk
      ·unfold cpy
       rw [q]
       dsimp only
       rw [if_neg (by rw [hH]; simp),h]
       dsimp only
       rw [if_pos lk]
      ·exact (t1.st.tupNot hH lk).elim
     ·cases z
  have st4 : RepSt H4 Hd σ ρ' := by
   refine ⟨fun b u e' => ?_,t1.st.len,fun i d h => ?_,fun i d h => ?_,t1.st.dis⟩
   ·rcases cpy_cases (h4 e').1 with y | ⟨_,y⟩ | ⟨_,y,_⟩
    ·exact up _ _ (t1.st.same _ _ y)
    ·exact y
    ·exact g3.s3 _ _ y
   ·obtain ⟨u,z,y⟩ := t1.st.sh i d h
    exact ⟨u,z,y.mono up4⟩
   ·obtain ⟨b,z,n0,y⟩ := t1.st.ow i d h
    obtain ⟨w,hw⟩ := y.some
    refine ⟨b,z,?_,y.mono up4 ((up _ _ hw).trans hw.symm)⟩
    cases q : H4 b with
    | none => rfl
    | some u =>
     rcases cpy_cases (h4 q).1 with y' | ⟨y',_⟩ | ⟨_,y',us',rfl⟩
     ·rw [n0] at y'; cases y'
     ·rw [hw] at y'; cases y'
     ·have := g3.s3 _ _ y'
      rw [up _ _ hw] at this
      cases this
      exact (t1.st.tupNot hw ⟨i,d,h,z⟩).elim
  have stp : Stp (Owned σ ρ) H0 H H4 Hd := by
   refine ⟨t1.stp.s0.trans up4,fun b u e' no => up _ _ (t1.stp.s1 b u e' no),fun b u e' => ?_,fun b u e' => ?_⟩
   ·rcases cpy_cases (h4 e').1 with y | ⟨y,_⟩ | ⟨y,_⟩
    ·exact t1.stp.s2 b u y
    ·exact .inl (t1.stp.gone y)
    ·exact .inl y
   ·obtain ⟨o',q⟩ := t1.stp.s3 b u e'
    exact ⟨o',up _ _ q⟩
  refine k _ H4 Hd ⟨st4,stp,t1.own,fun i _ => trivial⟩ ⟨a,rfl,t1.stp.gone na,t1.st.notOwned na,?_,us,ha,rs.share (fun b us' n h => ?_) ks (fun b hb => ?_) lk⟩
  ·show (if a = a then none else _) = none
   rw [if_pos rfl]
  ·rw [h4e (fun z => by subst z; rw [ha] at h; cases h),cpy_new t1.st.same n]
   exact h
  ·have n := (rs.fpN b hb).1
   rw [h4e fun z => nd1 (z ▸ hb),cpy_new t1.st.same n]
section
variable {X : Cx} {e : Expr} {es : List Expr} {fs : List Dm.FE} {pos p : Pos}
theorem d_callFP {k : Nat} {F : Addr} {fd : FuncData} {ps : List Str} {h : List Dm.Dat → Option Dm.Dp} {x : Str} (G : FnOk X.prog X.w X.K X.mg X.base CX0 k F fd ps (spP h)) (hr : Room k X.A) (hg : Gl X x) (hm : X.mg x = some (.ref F)) (hk : PySem.W.keepIn X.K (.ref F) = true) (hb : Binds X.K fd ps [])
  (ha : DA X (e :: es) fs) (hdb : (x == ("__debug__" : Str)) = false := by decide) (he : starEach (e :: es) X.env = (false, eval e X.env) :: starEach es X.env := by rfl) (hpl : (backTo pos (starEach es X.env)).any (·.1) = false := by rfl) :
  DE X (.Call (.Name x p) (e :: es) [] pos) (Dm.eFP h fs) := PE.weak (pe_call G hr hg hm hk hb .nil (pass0 (X := X)) ha hdb he hpl) fun _ _ _ => r_eFP
theorem q_nest (j : Nat) (nm own : List Str) {y : Str} {py spos lpos rp np : Pos} {tg iter : Expr} {scope : Scope} {is : List Nat} {bd : Dm.FB} {fi : Dm.FI} {loop : Dm.FN} {lst : Stmt} (hN : X.N.Nodup) (hg : TGc X nm scope own tg is bd) (hi : DI X tg iter fi) (hlp : DN X j lst loop)
  (hc : X.calm = true := by rfl) (hk : scope.kind = .function := by rfl) (hS : cscOk X.env.scope X.N nm scope = true := by rfl) (hl : (is.all fun i => decide (X.N.length ≤ i)) = true := by rfl) (hj : X.N[j]? = some y := by rfl) (hy : Loc X.env.scope y := by first | exact Or.inl rfl | exact Or.inr rfl)
  (hsw : swapsWith (.ListComp (.List [] lpos) [⟨tg,iter,[],0⟩] scope pos) (some (.Name y py)) spos.line X.env = pure true := by rfl) (hs : ∀ y,foldedSetIterable iter X.env y = pure y := by intro _; rfl)
  (hf : X.fn y = true ∨ X.env.scope.names.lookup y = some .local := by first | exact .inl rfl | exact .inr rfl | assumption) (hv : Vis X.env.scope y := by first | exact Or.inl rfl | exact Or.inr (Or.inl rfl) | exact Or.inr (Or.inr rfl)) (hd : (y == ("__debug__" : Str)) = false := by decide) (hcd : (y == ("__classdict__" : Str)) = false := by decide) :
  DQs X [.Assign [.Name y py] (.ListComp (.List [] lpos) [⟨tg,iter,[],0⟩] scope pos) spos,lst,.Return (some (.Name y np)) rp] (Dm.qNest j fi own.length bd loop) := by
 obtain ⟨g,h1,h2⟩ := hg.ex
 have h := pss_cons (ps_set_comp hN hj hy hc (CScope.of hS hk) hi h1 (fun cl C s H fp => pts_nil) (fun cl C s H fp => pe_lst (pos := lpos) pa_nil) hsw hs hf) (pss_cons hlp (pss_one (ps_ret (pos := rp) (pe_var (pos := np) hj hv hd hcd))))
 intro pins s σ H D I q
 exact h pins s σ H D I (r_qNest h2 (fun i hi => by rw [I.len]; exact hl_of hl i hi) (by rw [I.len]; exact (List.getElem?_eq_some_iff.mp hj).1) q)
end
end Br
namespace Dm
def We (e : FE) (ρ : Env) (Q : Val → Env → Prop) : Prop := ∃ v ρ',e ρ = some (v,ρ') ∧ Q v ρ'
def Wt (t : FT) (ρ : Env) (Q : Bool → Env → Prop) : Prop := ∃ v ρ',t ρ = some (v,ρ') ∧ Q v ρ'
def Was (as : List FE) (ρ : Env) (Q : List Val → Env → Prop) : Prop := ∃ v ρ',eAs as ρ = some (v,ρ') ∧ Q v ρ'
def Wi (it : FI) (ρ : Env) (Q : List Dat → Env → Prop) : Prop := ∃ v ρ',it ρ = some (v,ρ') ∧ Q v ρ'
def KO (N : Env → Prop) (R : RV → Env → Prop) (B C : Env → Prop) : Out → Prop
 | .nx ρ => N ρ
 | .ret r ρ => R r ρ
 | .bk ρ => B ρ
 | .ct ρ => C ρ
def Ws (s : FS) (ρ : Env) (N : Env → Prop) (R : RV → Env → Prop) (B C : Env → Prop) : Prop := ∃ o,s ρ = some o ∧ KO N R B C o
def Wr (o : Option RV) (P : RV → Prop) : Prop := ∃ r,o = some r ∧ P r
def Wif (c : Bool) (X Y : Prop) : Prop := (c = true → X) ∧ (c = false → Y)
def Wg1 (g : Dat → Option RV) (o : Option Dat) (K : RV → Prop) : Prop := ∃ d v,o = some d ∧ g d = some v ∧ K v
def Wg2 (g : Dat → Dat → Option RV) (o p : Option Dat) (K : RV → Prop) : Prop := ∃ d e v,o = some d ∧ p = some e ∧ g d e = some v ∧ K v
def WB (g : List Dat → Option RV) (o : Option (List Dat)) (K : RV → Prop) : Prop := ∃ ds v,o = some ds ∧ g ds = some v ∧ K v
def WT (o : Option (List Dat × Env)) (K : List Dat → Env → Prop) : Prop := ∃ ds ρ,o = some (ds,ρ) ∧ ds.length ≤ SZ ∧ K ds ρ
def WF (f : List Dat → Option RV) (ρ : Env) (xs : List Val) (Q : Val → Env → Prop) : Prop := ∃ ds v,pks ρ xs = some ds ∧ f ds = some v ∧ (if isBox v.dat then ∃ ds' ρ2,tks ρ xs = some (ds',ρ2) ∧ Q v.toVal ρ2 else Q v.toVal ρ)
def Wk (ρ : Env) (x : Val) (K : Dat → Env → Prop) : Prop := ∃ d ρ',tk ρ x = some (d,ρ') ∧ K d ρ'
def Wp (o : Option FE) (ρ : Env) (K : Option Int → Env → Prop) : Prop := ∃ i ρ',part o ρ = some (i,ρ') ∧ K i ρ'
theorem Wif.t {X Y : Prop} (x : X) : Wif true X Y := ⟨fun _ => x,fun h => by cases h⟩
theorem Wif.f {X Y : Prop} (y : Y) : Wif false X Y := ⟨fun h => (by cases h),fun _ => y⟩
theorem Wif.yes {c : Bool} {X Y : Prop} (h : c = true) (x : X) : Wif c X Y := ⟨fun _ => x,fun h' => by rw [h] at h'; cases h'⟩
theorem Wif.no {c : Bool} {X Y : Prop} (h : c = false) (y : Y) : Wif c X Y := ⟨fun h' => (by rw [h] at h'; cases h'),fun _ => y⟩
theorem Wif.dec {p : Prop} [Decidable p] {X Y : Prop} (x : p → X) (y : ¬ p → Y) : Wif (decide p) X Y := ⟨fun h => x (of_decide_eq_true h),fun h => y (of_decide_eq_false h)⟩
theorem We.v {i : Nat} {ρ : Env} {d : Dat} {Q : Val → Env → Prop} (h : ρ[i]? = some (.sh d)) (q : Q (.val d) ρ) : We (eV i) ρ Q := ⟨_,_,by unfold eV; rw [h],q⟩
theorem We.w {i : Nat} {ρ : Env} {d : Dat} {Q : Val → Env → Prop} (h : ρ[i]? = some (.ow d)) (q : Q (.slot i) ρ) : We (eV i) ρ Q := ⟨_,_,by unfold eV; rw [h],q⟩
theorem We.c {d : Dat} {ρ : Env} {Q : Val → Env → Prop} (q : Q (.val d) ρ) : We (eC d) ρ Q := ⟨_,_,rfl,q⟩
theorem We.e1 {g : Dat → Option RV} {a : FE} {ρ : Env} {Q : Val → Env → Prop} (h : We a ρ fun x ρ1 => Wg1 g (pk ρ1 x) fun v => Q v.toVal ρ1) : We (e1 g a) ρ Q := by
 obtain ⟨x,ρ1,h1,d,v,h2,h3,q⟩ := h
 exact ⟨_,_,by unfold Dm.e1; rw [h1]; dsimp only; rw [h2]; dsimp only; rw [h3],q⟩
theorem We.e2 {g : Dat → Dat → Option RV} {a b : FE} {ρ : Env} {Q : Val → Env → Prop} (h : We a ρ fun x ρ1 => We b ρ1 fun y ρ2 => Wg2 g (pk ρ2 x) (pk ρ2 y) fun v => Q v.toVal ρ2) : We (e2 g a b) ρ Q := by
 obtain ⟨x,ρ1,h1,y,ρ2,h2,d,e,v,h3,h4,h5,q⟩ := h
 exact ⟨_,_,by unfold Dm.e2; rw [h1]; dsimp only; rw [h2]; dsimp only; rw [h3]; dsimp only; rw [h4]; dsimp only; rw [h5],q⟩
theorem Was.nil {ρ : Env} {Q : List Val → Env → Prop} (q : Q [] ρ) : Was [] ρ Q := ⟨_,_,rfl,q⟩
theorem Was.cons {a : FE} {r : List FE} {ρ : Env} {Q : List Val → Env → Prop} (h : We a ρ fun x ρ1 => Was r ρ1 fun xs ρ2 => Q (x :: xs) ρ2) : Was (a :: r) ρ Q := by
 obtain ⟨x,ρ1,h1,xs,ρ2,h2,q⟩ := h
 exact ⟨_,_,by unfold eAs; rw [h1]; dsimp only; rw [h2],q⟩
theorem We.B {g : List Dat → Option RV} {as : List FE} {ρ : Env} {Q : Val → Env → Prop} (h : Was as ρ fun xs ρ1 => WB g (pks ρ1 xs) fun v => Q v.toVal ρ1) : We (eB g as) ρ Q := by
 obtain ⟨x,ρ1,h1,d,v,h2,h3,q⟩ := h
 exact ⟨_,_,by unfold eB; rw [h1]; dsimp only; rw [h2]; dsimp only; rw [h3],q⟩
theorem We.T {as : List FE} {ρ : Env} {Q : Val → Env → Prop} (h : Was as ρ fun xs ρ1 => WT (tks ρ1 xs) fun ds ρ2 => Q (.val (.tup ds)) ρ2) : We (eTup as) ρ Q := by
 obtain ⟨x,ρ1,h1,ds,ρ2,h2,h3,q⟩ := h
 exact ⟨_,_,by unfold eTup; rw [h1]; dsimp only; rw [h2]; dsimp only; rw [if_pos h3],q⟩
theorem We.L {as : List FE} {ρ : Env} {Q : Val → Env → Prop} (h : Was as ρ fun xs ρ1 => WT (tks ρ1 xs) fun ds ρ2 => Q (.new (.lst ds)) ρ2) : We (eLst as) ρ Q := by
 obtain ⟨x,ρ1,h1,ds,ρ2,h2,h3,q⟩ := h
 exact ⟨_,_,by unfold eLst; rw [h1]; dsimp only; rw [h2]; dsimp only; rw [if_pos h3],q⟩
theorem WT.mk {ρ : Env} {xs : List Val} {ds : List Dat} {ρ2 ρ3 : Env} {K : List Dat → Env → Prop} (k : K ds ρ3) (h : tks ρ xs = some (ds,ρ2)) (hn : ρ2 = ρ3) (hl : ds.length ≤ SZ) : WT (tks ρ xs) K := ⟨_,_,hn ▸ h,hl,k⟩
theorem We.F {f : List Dat → Option RV} {as : List FE} {ρ : Env} {Q : Val → Env → Prop} (h : Was as ρ fun xs ρ1 => WF f ρ1 xs Q) : We (eF f as) ρ Q := by
 obtain ⟨x,ρ1,h1,ds,v,h2,h3,h4⟩ := h
 by_cases hb : isBox v.dat = true
 ·rw [if_pos hb] at h4
  obtain ⟨ds',ρ2,h5,q⟩ := h4
  exact ⟨_,_,by unfold eF; rw [h1]; dsimp only; rw [h2]; dsimp only; rw [h3]; dsimp only; rw [if_pos hb,h5],q⟩
 ·rw [if_neg hb] at h4
  exact ⟨_,_,by unfold eF; rw [h1]; dsimp only; rw [h2]; dsimp only; rw [h3]; dsimp only; rw [if_neg hb],h4⟩
theorem WF.box {f : List Dat → Option RV} {ρ ρ2 ρ3 : Env} {xs : List Val} {ds ds' : List Dat} {v : RV} {Q : Val → Env → Prop} (h2 : f ds = some v) (q : Q v.toVal ρ3) (h1 : pks ρ xs = some ds) (h3 : isBox v.dat = true) (h4 : tks ρ xs = some (ds',ρ2)) (hn : ρ2 = ρ3) : WF f ρ xs Q :=
 ⟨_,_,h1,h2,by rw [if_pos h3]; exact ⟨_,_,h4,hn ▸ q⟩⟩
theorem WF.val {f : List Dat → Option RV} {ρ : Env} {xs : List Val} {ds : List Dat} {v : RV} {Q : Val → Env → Prop} (h2 : f ds = some v) (q : Q v.toVal ρ) (h1 : pks ρ xs = some ds) (h3 : isBox v.dat = false) : WF f ρ xs Q :=
 ⟨_,_,h1,h2,by rw [if_neg (by rw [h3]; decide)]; exact q⟩
def Wb (v : Val) (K : Bool → Prop) : Prop := ∃ c,v = .val (.bl c) ∧ K c
theorem Wb.mk {c : Bool} {K : Bool → Prop} (k : K c) : Wb (.val (.bl c)) K := ⟨c,rfl,k⟩
theorem We.And {a b : FE} {ρ : Env} {Q : Val → Env → Prop} (h : We a ρ fun v ρ1 => Wb v fun c => Wif c (We b ρ1 Q) (Q (.val (.bl false)) ρ1)) : We (eAnd a b) ρ Q := by
 obtain ⟨v,ρ1,h1,c,rfl,h2,h3⟩ := h
 cases c with
 | true => obtain ⟨v,ρ2,h4,q⟩ := h2 rfl; exact ⟨_,_,by unfold eAnd; rw [h1]; exact h4,q⟩
 | false => exact ⟨_,_,by unfold eAnd; rw [h1],h3 rfl⟩
theorem Wt.V {a : FE} {ρ : Env} {Q : Bool → Env → Prop} (h : We a ρ fun v ρ1 => Wb v fun c => Q c ρ1) : Wt (tV a) ρ Q := by
 obtain ⟨v,ρ1,h1,c,rfl,h2⟩ := h
 exact ⟨_,_,by unfold tV; rw [h1],h2⟩
theorem Wt.Not {t : FT} {ρ : Env} {Q : Bool → Env → Prop} (h : Wt t ρ fun c ρ1 => Q (!c) ρ1) : Wt (tNot t) ρ Q := by
 obtain ⟨v,ρ1,h1,h2⟩ := h
 exact ⟨_,_,by unfold tNot; rw [h1],h2⟩
theorem Wt.And {t u : FT} {ρ : Env} {Q : Bool → Env → Prop} (h : Wt t ρ fun c ρ1 => Wif c (Wt u ρ1 Q) (Q false ρ1)) : Wt (tAnd t u) ρ Q := by
 obtain ⟨c,ρ1,h1,h2,h3⟩ := h
 cases c with
 | true => obtain ⟨v,ρ2,h4,q⟩ := h2 rfl; exact ⟨_,_,by unfold tAnd; rw [h1]; exact h4,q⟩
 | false => exact ⟨_,_,by unfold tAnd; rw [h1],h3 rfl⟩
theorem Wt.Or {t u : FT} {ρ : Env} {Q : Bool → Env → Prop} (h : Wt t ρ fun c ρ1 => Wif c (Q true ρ1) (Wt u ρ1 Q)) : Wt (tOr t u) ρ Q := by
 obtain ⟨c,ρ1,h1,h2,h3⟩ := h
 cases c with
 | false => obtain ⟨v,ρ2,h4,q⟩ := h3 rfl; exact ⟨_,_,by unfold tOr; rw [h1]; exact h4,q⟩
 | true => exact ⟨_,_,by unfold tOr; rw [h1],h2 rfl⟩
theorem Wt.Tr {a : FE} {ρ : Env} {Q : Bool → Env → Prop} (h : We a ρ fun x ρ1 => ∃ d c,pk ρ1 x = some d ∧ truth d = some c ∧ Q c ρ1) : Wt (tTr a) ρ Q := by
 obtain ⟨x,ρ1,h1,d,c,h2,h3,q⟩ := h
 exact ⟨_,_,by unfold tTr; rw [h1]; dsimp only; rw [h2]; dsimp only; rw [h3],q⟩
theorem Wt.T {ρ : Env} {Q : Bool → Env → Prop} (q : Q true ρ) : Wt tTrue ρ Q := ⟨_,_,rfl,q⟩
theorem Wk.val {ρ : Env} {d : Dat} {K : Dat → Env → Prop} (k : K d ρ) : Wk ρ (.val d) K := ⟨_,_,rfl,k⟩
theorem Wk.new {ρ : Env} {d : Dat} {K : Dat → Env → Prop} (k : K d ρ) : Wk ρ (.new d) K := ⟨_,_,rfl,k⟩
theorem Wk.slot {ρ ρ' : Env} {i : Nat} {d : Dat} {K : Dat → Env → Prop} (k : K d ρ') (h : ρ[i]? = some (.ow d)) (hs : ρ.set i (.sh d) = ρ') : Wk ρ (.slot i) K := ⟨_,_,by unfold tk; dsimp only; rw [h]; dsimp only; rw [hs],k⟩
def seqD : Dat → Option (List Dat)
 | .lst ds => some ds
 | .tup ds => some ds
 | _ => none
theorem Wi.S {a : FE} {ρ : Env} {Q : List Dat → Env → Prop} (h : We a ρ fun x ρ1 => Wk ρ1 x fun d ρ2 => ∃ ds,seqD d = some ds ∧ Q ds ρ2) : Wi (iS a) ρ Q := by
 obtain ⟨x,ρ1,h1,d,ρ2,h2,ds,hd,q⟩ := h
 cases d with
 | lst xs => cases hd; exact ⟨_,_,by unfold iS; rw [h1]; dsimp only; rw [h2],q⟩
 | tup xs => cases hd; exact ⟨_,_,by unfold iS; rw [h1]; dsimp only; rw [h2],q⟩
 | _ => cases hd
def Wint (v : Val) (K : Int → Prop) : Prop := ∃ i,v = .val (.int i) ∧ K i
theorem Wint.mk {i : Int} {K : Int → Prop} (k : K i) : Wint (.val (.int i)) K := ⟨i,rfl,k⟩
theorem Wi.R1 {a : FE} {ρ : Env} {Q : List Dat → Env → Prop} (h : We a ρ fun v ρ1 => Wint v fun j => Q (ups 0 j.toNat) ρ1 ∧ j ≤ BIG ∧ -BIG ≤ j) : Wi (iR1 a) ρ Q := by
 obtain ⟨v,ρ1,h1,j,rfl,q,h2⟩ := h
 exact ⟨_,_,by unfold iR1; rw [h1]; dsimp only; rw [if_pos h2],q⟩
theorem Wi.R2 {a b : FE} {ρ : Env} {Q : List Dat → Env → Prop} (h : We a ρ fun v ρ1 => Wint v fun i => We b ρ1 fun w ρ2 => Wint w fun j => Q (ups i (j - i).toNat) ρ2 ∧ j ≤ BIG ∧ -BIG ≤ j ∧ i ≤ BIG ∧ -BIG ≤ i) : Wi (iR2 a b) ρ Q := by
 obtain ⟨v,ρ1,h1,i,rfl,w,ρ2,h2,j,rfl,q,h3⟩ := h
 exact ⟨_,_,by unfold iR2; rw [h1]; dsimp only; rw [h2]; dsimp only; rw [if_pos h3],q⟩
def Wsl (o : Option Dat) (l h : Option Int) (K : Dat → Prop) : Prop := ∃ xs,o = some (.lst xs) ∧ K (.lst (cut xs l h))
theorem We.Sl {a : FE} {lo hi : Option FE} {ρ : Env} {Q : Val → Env → Prop} (h : We a ρ fun x ρ1 => Wp lo ρ1 fun l ρ2 => Wp hi ρ2 fun h ρ3 => Wsl (pk ρ3 x) l h fun d => Q (.new d) ρ3) : We (eSl a lo hi) ρ Q := by
 obtain ⟨x,ρ1,h1,l,ρ2,h2,hh,ρ3,h3,xs,h4,q⟩ := h
 exact ⟨_,_,by unfold eSl; rw [h1]; dsimp only; rw [h2]; dsimp only; rw [h3]; dsimp only; rw [h4],q⟩
theorem Ws.nx {ρ : Env} {N : Env → Prop} {R : RV → Env → Prop} {B C : Env → Prop} (n : N ρ) : Ws sNx ρ N R B C := ⟨_,rfl,n⟩
theorem Ws.seq {s u : FS} {ρ : Env} {N : Env → Prop} {R : RV → Env → Prop} {B C : Env → Prop} (h : Ws s ρ (fun ρ1 => Ws u ρ1 N R B C) R B C) : Ws (sSeq s u) ρ N R B C := by
 obtain ⟨o,h1,h2⟩ := h
 cases o with
 | nx ρ1 => obtain ⟨o,h3,h4⟩ := h2; exact ⟨o,by unfold sSeq; rw [h1]; exact h3,h4⟩
 | ret r ρ1 => exact ⟨.ret r ρ1,by unfold sSeq; rw [h1],h2⟩
 | bk ρ1 => exact ⟨.bk ρ1,by unfold sSeq; rw [h1],h2⟩
 | ct ρ1 => exact ⟨.ct ρ1,by unfold sSeq; rw [h1],h2⟩
def WA (i : Nat) (v : Val) (ρ : Env) (N : Env → Prop) : Prop := match v with
 | .new d => N (ρ.set i (.ow d))
 | x => Wk ρ x fun d ρ2 => N (ρ2.set i (.sh d))
theorem Ws.A {i : Nat} {e : FE} {ρ : Env} {N : Env → Prop} {R : RV → Env → Prop} {B C : Env → Prop} (h : We e ρ fun v ρ1 => WA i v ρ1 N) (hi : i ≠ 0) : Ws (sA i e) ρ N R B C := by
 obtain ⟨v,ρ1,h1,h2⟩ := h
 cases v with
 | new d => exact ⟨.nx _,by unfold sA; rw [if_neg hi,h1],h2⟩
 | val d => obtain ⟨d',ρ2,h3,h4⟩ := h2; exact ⟨.nx _,by unfold sA; rw [if_neg hi,h1]; dsimp only; rw [h3],h4⟩
 | slot j => obtain ⟨d',ρ2,h3,h4⟩ := h2; exact ⟨.nx _,by unfold sA; rw [if_neg hi,h1]; dsimp only; rw [h3],h4⟩
theorem WA.new {i : Nat} {d : Dat} {ρ ρ2 : Env} {N : Env → Prop} (n : N ρ2) (hs : ρ.set i (.ow d) = ρ2) : WA i (.new d) ρ N := by unfold WA; dsimp only; rw [hs]; exact n
theorem WA.val {i : Nat} {d : Dat} {ρ ρ2 : Env} {N : Env → Prop} (n : N ρ2) (hs : ρ.set i (.sh d) = ρ2) : WA i (.val d) ρ N := ⟨_,_,rfl,by show N _; rw [hs]; exact n⟩
theorem Ws.E {e : FE} {ρ : Env} {N : Env → Prop} {R : RV → Env → Prop} {B C : Env → Prop} (h : We e ρ fun _ ρ1 => N ρ1) : Ws (sE e) ρ N R B C := by
 obtain ⟨x,ρ1,h1,n⟩ := h
 exact ⟨.nx _,by unfold sE; rw [h1],n⟩
def WR (v : Val) (ρ : Env) (R : RV → Env → Prop) : Prop := match v with
 | .new d => R (.new d) ρ
 | .val d => R (.val d) ρ
 | .slot i => (∃ d,ρ[i]? = some (.ow d) ∧ R (.new d) (ρ.set i .un))
theorem Ws.R {e : FE} {ρ : Env} {N : Env → Prop} {R : RV → Env → Prop} {B C : Env → Prop} (h : We e ρ fun v ρ1 => WR v ρ1 R) : Ws (sR e) ρ N R B C := by
 obtain ⟨v,ρ1,h1,h2⟩ := h
 cases v with
 | new d => exact ⟨.ret _ _,by unfold sR; rw [h1],h2⟩
 | val d => exact ⟨.ret _ _,by unfold sR; rw [h1],h2⟩
 | slot i => obtain ⟨d,h3,h4⟩ := h2; exact ⟨.ret _ _,by unfold sR; rw [h1]; dsimp only; rw [h3],h4⟩
theorem WR.new {d : Dat} {ρ : Env} {R : RV → Env → Prop} (r : R (.new d) ρ) : WR (.new d) ρ R := r
theorem WR.val {d : Dat} {ρ : Env} {R : RV → Env → Prop} (r : R (.val d) ρ) : WR (.val d) ρ R := r
theorem WR.slot {d : Dat} {ρ : Env} {i : Nat} {R : RV → Env → Prop} (r : R (.new d) (ρ.set i .un)) (h : ρ[i]? = some (.ow d)) : WR (.slot i) ρ R := ⟨d,h,r⟩
theorem Ws.If {t : FT} {a b : FS} {ρ : Env} {N : Env → Prop} {R : RV → Env → Prop} {B C : Env → Prop} (h : Wt t ρ fun c ρ1 => Wif c (Ws a ρ1 N R B C) (Ws b ρ1 N R B C)) : Ws (sIf t a b) ρ N R B C := by
 obtain ⟨c,ρ1,h1,h2,h3⟩ := h
 cases c with
 | true => obtain ⟨o,h4,q⟩ := h2 rfl; exact ⟨_,by unfold sIf; rw [h1]; exact h4,q⟩
 | false => obtain ⟨o,h4,q⟩ := h3 rfl; exact ⟨_,by unfold sIf; rw [h1]; exact h4,q⟩
theorem Ws.App {i : Nat} {e : FE} {ρ : Env} {N : Env → Prop} {R : RV → Env → Prop} {B C : Env → Prop} {ds0 : List Dat} (h : We e ρ fun x ρ1 => Wk ρ1 x fun d ρ2 => ∃ ds ρ3,ρ2[i]? = some (.ow (.lst ds)) ∧ ρ2.set i (.ow (.lst (ds ++ [d]))) = ρ3 ∧ N ρ3 ∧ ds.length < SZ) (h0 : ρ[i]? = some (.ow (.lst ds0))) : Ws (sApp i e) ρ N R B C := by
 obtain ⟨x,ρ1,h1,d,ρ2,h2,ds,ρ3,h3,h5,n,h4⟩ := h
 exact ⟨.nx _,by unfold sApp; rw [h0]; dsimp only; rw [h1]; dsimp only; rw [h2]; dsimp only; rw [h3]; dsimp only; rw [if_pos h4,h5],n⟩
theorem app_go {i : Nat} {d : Dat} {ds : List Dat} {ρ2 ρ3 : Env} {N : Env → Prop} (n : N ρ3) (h : ρ2[i]? = some (.ow (.lst ds))) (hs : ρ2.set i (.ow (.lst (ds ++ [d]))) = ρ3) (hl : ds.length < SZ) : ∃ ds ρ3,ρ2[i]? = some (.ow (.lst ds)) ∧ ρ2.set i (.ow (.lst (ds ++ [d]))) = ρ3 ∧ N ρ3 ∧ ds.length < SZ := ⟨_,_,h,hs,n,hl⟩
theorem Ws.Set {i : Nat} {j e : FE} {ρ : Env} {N : Env → Prop} {R : RV → Env → Prop} {B C : Env → Prop} (h : We e ρ fun x ρ1 => Wk ρ1 x fun d ρ2 => (∃ d0,ρ2[i]? = some (.ow d0)) ∧ We j ρ2 fun y ρ3 => Wint y fun k => ∃ ds m ρ4,ρ3[i]? = some (.ow (.lst ds)) ∧ ixN ds.length k = some m ∧ ρ3.set i (.ow (.lst (ds.set m d))) = ρ4 ∧ N ρ4) : Ws (sSet i j e) ρ N R B C := by
 obtain ⟨x,ρ1,h1,d,ρ2,h2,⟨d0,h0⟩,y,ρ3,h3,k,rfl,ds,m,ρ4,h4,h5,h6,n⟩ := h
 exact ⟨.nx _,by unfold sSet; rw [h1]; dsimp only; rw [h2]; dsimp only; rw [h0]; dsimp only; rw [h3]; dsimp only; rw [h4]; dsimp only; rw [h5]; dsimp only; rw [h6],n⟩
theorem Ws.Dput {i : Nat} {j e : FE} {ρ : Env} {N : Env → Prop} {R : RV → Env → Prop} {B C : Env → Prop} (h : We e ρ fun x ρ1 => Wk ρ1 x fun d ρ2 => (∃ d0,ρ2[i]? = some (.ow d0)) ∧ We j ρ2 fun y ρ3 => Wint y fun k => ∃ ks vs ρ4,ρ3[i]? = some (.ow (.dct ks vs)) ∧ ρ3.set i (.ow (.dct (putKs ks k) (putVs ks vs k d))) = ρ4 ∧ N ρ4 ∧ ks.length < SZ) : Ws (sDput i j e) ρ N R B C := by
 obtain ⟨x,ρ1,h1,d,ρ2,h2,⟨d0,h0⟩,y,ρ3,h3,k,rfl,ks,vs,ρ4,h4,h5,n,h6⟩ := h
 exact ⟨.nx _,by unfold sDput; rw [h1]; dsimp only; rw [h2]; dsimp only; rw [h0]; dsimp only; rw [h3]; dsimp only; rw [h4]; dsimp only; rw [if_pos h6,h5],n⟩
theorem dput_go {i : Nat} {k : Int} {d : Dat} {ks : List Int} {vs : List Dat} {ρ3 ρ4 : Env} {N : Env → Prop} (n : N ρ4) (h : ρ3[i]? = some (.ow (.dct ks vs))) (hs : ρ3.set i (.ow (.dct (putKs ks k) (putVs ks vs k d))) = ρ4) (hl : ks.length < SZ) : ∃ ks vs ρ4,ρ3[i]? = some (.ow (.dct ks vs)) ∧ ρ3.set i (.ow (.dct (putKs ks k) (putVs ks vs k d))) = ρ4 ∧ N ρ4 ∧ ks.length < SZ := ⟨_,_,_,h,hs,n,hl⟩
theorem Ws.For {it : FI} {bd : FB} {body : FS} {ρ : Env} {N : Env → Prop} {R : RV → Env → Prop} {B C : Env → Prop} (h : Wi it ρ fun ds ρ1 => Ws (forD bd body ds) ρ1 N R B C) : Ws (sFor it bd body) ρ N R B C := by
 obtain ⟨ds,ρ1,h1,o,h2,h3⟩ := h
 exact ⟨o,by unfold sFor; rw [h1]; exact h2,h3⟩
theorem Ws.inv {α : Type} (enc : α → Dat) (bd : FB) (body : FS) (xs : List α) (ρ : Env) (N : Env → Prop) (R : RV → Env → Prop) (B C : Env → Prop) (I : List α → List α → Env → Prop)
  (h0 : I [] xs ρ) (hs : ∀ p x q ρ,xs = p ++ x :: q → I p (x :: q) ρ → ∃ ρ1,bd (enc x) ρ = some ρ1 ∧ Ws body ρ1 (fun ρ2 => I (p ++ [x]) q ρ2) R N (fun ρ2 => I (p ++ [x]) q ρ2)) (he : ∀ ρ,I xs [] ρ → N ρ) : Ws (forD bd body (xs.map enc)) ρ N R B C := by
 have go : ∀ (q p : List α) (ρ : Env),xs = p ++ q → I p q ρ → Ws (forD bd body (q.map enc)) ρ N R B C := fun q => by
  induction q with
  | nil => intro p ρ e i; rw [List.append_nil] at e; exact ⟨.nx _,rfl,he ρ (e ▸ i)⟩
  | cons x q ih =>
   intro p ρ e i
   obtain ⟨ρ1,h1,o,h2,h3⟩ := hs p x q ρ e i
   have e' : xs = (p ++ [x]) ++ q := by rw [List.append_assoc]; exact e
   cases o with
   | nx ρ2 => obtain ⟨o,h4,h5⟩ := ih _ _ e' h3; exact ⟨o,by rw [List.map_cons,forD,h1]; dsimp only; rw [h2]; exact h4,h5⟩
   | ct ρ2 => obtain ⟨o,h4,h5⟩ := ih _ _ e' h3; exact ⟨o,by rw [List.map_cons,forD,h1]; dsimp only; rw [h2]; exact h4,h5⟩
   | bk ρ2 => exact ⟨.nx _,by rw [List.map_cons,forD,h1]; dsimp only; rw [h2],h3⟩
   | ret r ρ2 => exact ⟨.ret _ _,by rw [List.map_cons,forD,h1]; dsimp only; rw [h2],h3⟩
 exact go xs [] ρ rfl h0
theorem Wr.fn {n m : Nat} {body : FS} {ds : List Dat} {ρ : Env} {P : RV → Prop} (b : Ws body ρ (fun _ => P (.val .non)) (fun r _ => P r) (fun _ => False) (fun _ => False)) (hρ : ds.map Cell.sh ++ List.replicate m .un = ρ) (h : ds.length = n) : Wr (fn n m body ds) P := by
 obtain ⟨o,h1,h2⟩ := b
 cases o with
 | nx ρ1 => exact ⟨_,by unfold Dm.fn; rw [if_pos h,hρ,h1],h2⟩
 | ret r ρ1 => exact ⟨_,by unfold Dm.fn; rw [if_pos h,hρ,h1],h2⟩
 | bk ρ1 => exact h2.elim
 | ct ρ1 => exact h2.elim
theorem Wr.eq {o : Option RV} {r : RV} (h : Wr o fun x => x = r) : o = some r := by obtain ⟨x,h1,rfl⟩ := h; exact h1
theorem compW {α : Type} (enc : α → Dat) (p : α → Bool) (v : α → Dat) (bd : FB) (t : FT) (el : FE) (mk : Cell → Env) (hb : ∀ d c,bd d (mk c) = some (mk (.sh d))) : ∀ (xs : List α) (c : Cell) (acc : List Dat),
  (∀ x ∈ xs,t (mk (.sh (enc x))) = some (p x,mk (.sh (enc x)))) → (∀ x ∈ xs,p x = true → We el (mk (.sh (enc x))) fun w ρ' => Wk ρ' w fun d ρ'' => d = v x ∧ ρ'' = mk (.sh (enc x))) →
  ∃ c',compD bd t el (xs.map enc) (mk c) acc = some (acc ++ (xs.filter p).map v,mk c')
 | [],c,acc,_,_ => ⟨c,by simp [compD]⟩
 | x :: xs,c,acc,ht,he => by
  rw [List.map_cons,compD,hb]
  dsimp only
  rw [ht x List.mem_cons_self]
  have ht' := fun y hy => ht y (List.mem_cons_of_mem _ hy)
  have he' := fun y hy => he y (List.mem_cons_of_mem _ hy)
  by_cases h : p x = true
  ·obtain ⟨w,ρ',h1,d,ρ'',h2,rfl,rfl⟩ := he x List.mem_cons_self h
   rw [h]
   dsimp only
   rw [h1]
   dsimp only
   rw [h2]
   obtain ⟨c',e⟩ := compW enc p v bd t el mk hb xs (.sh (enc x)) (acc ++ [v x]) ht' he'
   exact ⟨c',by dsimp only; rw [e,List.filter_cons_of_pos h]; simp⟩
  ·rw [Bool.not_eq_true] at h
   rw [h]
   obtain ⟨c',e⟩ := compW enc p v bd t el mk hb xs (.sh (enc x)) acc ht' he'
   exact ⟨c',by dsimp only; rw [e,List.filter_cons_of_neg (by rw [h]; decide)]⟩
theorem Wt.get {t : FT} {ρ : Env} {c : Bool} (h : Wt t ρ fun c' ρ' => c' = c ∧ ρ' = ρ) : t ρ = some (c,ρ) := by
 obtain ⟨_,_,h1,rfl,rfl⟩ := h; exact h1
theorem We.Comp {α : Type} (enc : α → Dat) (xs : List α) (p : α → Bool) (v : α → Dat) {it : FI} {k : Nat} {t : FT} {el : FE} {ρ ρ1 : Env} {Q : Val → Env → Prop}
  (q : Q (.new (.lst ((xs.filter p).map v))) ρ1) (hit : it ρ = some (xs.map enc,ρ1)) (hk : ρ1.length = k) (hk0 : k ≠ 0) (hl : xs.length ≤ SZ)
  (ht : ∀ x ∈ xs,Wt t (ρ1 ++ [.sh (enc x)]) fun c ρ' => c = p x ∧ ρ' = ρ1 ++ [.sh (enc x)])
  (he : ∀ x ∈ xs,p x = true → We el (ρ1 ++ [.sh (enc x)]) fun w ρ' => Wk ρ' w fun d ρ'' => d = v x ∧ ρ'' = ρ1 ++ [.sh (enc x)]) : We (eComp it 1 (bN k) t el) ρ Q := by
 have bd : ∀ (d : Dat) (c : Cell),bN k d (ρ1 ++ [c]) = some (ρ1 ++ [.sh d]) := fun d c => by
  unfold bN
  rw [if_neg hk0,List.set_append_right _ _ (by omega)]
  simp [hk]
 obtain ⟨c',e⟩ := compW enc p v (bN k) t el (fun c => ρ1 ++ [c]) bd xs .un [] (fun x hx => Wt.get (ht x hx)) he
 refine ⟨_,_,?_,q⟩
 unfold eComp
 rw [hit]
 dsimp only
 rw [if_pos (by rw [List.length_map]; exact hl)]
 show (match compD _ _ _ _ (ρ1 ++ [.un]) [] with | none => none | some (ys,ρ2) => some (Val.new (.lst ys),ρ2.take ρ1.length)) = _
 rw [e]
 dsimp only
 rw [List.nil_append,List.take_left]
theorem We.CompS {α : Type} (enc : α → Dat) (xs : List α) (p : α → Bool) (v : α → Dat) {i : Nat} {k : Nat} {t : FT} {el : FE} {ρ : Env} {Q : Val → Env → Prop} {d : Dat}
  (q : Q (.new (.lst ((xs.filter p).map v))) ρ) (hi : ρ[i]? = some (.sh d)) (hd : seqD d = some (xs.map enc)) (hk : ρ.length = k) (hk0 : k ≠ 0) (hl : xs.length ≤ SZ)
  (ht : ∀ x ∈ xs,Wt t (ρ ++ [.sh (enc x)]) fun c ρ' => c = p x ∧ ρ' = ρ ++ [.sh (enc x)])
  (he : ∀ x ∈ xs,p x = true → We el (ρ ++ [.sh (enc x)]) fun w ρ' => Wk ρ' w fun d ρ'' => d = v x ∧ ρ'' = ρ ++ [.sh (enc x)]) : We (eCompM i 1 (bN k) t el) ρ Q := by
 have hit : iS (eV i) ρ = some (xs.map enc,ρ) := by
  unfold iS eV
  rw [hi]
  cases d with
  | lst ys => cases hd; rfl
  | tup ys => cases hd; rfl
  | _ => cases hd
 obtain ⟨a,ρ',h1,h2⟩ := We.Comp enc xs p v (Q := Q) q hit hk hk0 hl ht he
 refine ⟨a,ρ',?_,h2⟩
 unfold eCompM
 rw [hi]
 exact h1
theorem We.CompO {α : Type} (enc : α → Dat) (xs : List α) (p : α → Bool) (v : α → Dat) {i : Nat} {k : Nat} {t : FT} {el : FE} {ρ ρ1 : Env} {Q : Val → Env → Prop}
  (q : Q (.new (.lst ((xs.filter p).map v))) ρ) (hi : ρ[i]? = some (.ow (.lst (xs.map enc)))) (h1 : ρ.set i .un = ρ1) (hk : ρ.length = k) (hk0 : k ≠ 0) (hl : xs.length ≤ SZ)
  (ht : ∀ x ∈ xs,Wt t (ρ1 ++ [.sh (enc x)]) fun c ρ' => c = p x ∧ ρ' = ρ1 ++ [.sh (enc x)])
  (he : ∀ x ∈ xs,p x = true → We el (ρ1 ++ [.sh (enc x)]) fun w ρ' => Wk ρ' w fun d ρ'' => d = v x ∧ ρ'' = ρ1 ++ [.sh (enc x)]) : We (eCompM i 1 (bN k) t el) ρ Q := by
 have hlen : ρ1.length = ρ.length := by rw [← h1,List.length_set]
 have hil : i < ρ.length := (List.getElem?_eq_some_iff.mp hi).1
 have bd : ∀ (d : Dat) (c : Cell),bN k d (ρ1 ++ [c]) = some (ρ1 ++ [.sh d]) := fun d c => by
  unfold bN
  rw [if_neg hk0,List.set_append_right _ _ (by omega)]
  simp [hk,hlen]
 obtain ⟨c',e⟩ := compW enc p v (bN k) t el (fun c => ρ1 ++ [c]) bd xs .un [] (fun x hx => Wt.get (ht x hx)) he
 refine ⟨_,_,?_,q⟩
 unfold eCompM
 rw [hi]
 dsimp only
 rw [if_pos (by rw [List.length_map]; exact hl),h1]
 show (match compD _ _ _ _ (ρ1 ++ [.un]) [] with | none => none | some (ys,ρ2) => some (Val.new (.lst ys),(ρ2.take ρ.length).set i (.ow (.lst (xs.map enc))))) = _
 rw [e]
 dsimp only
 rw [List.nil_append,← hlen,List.take_left,← h1,List.set_set]
 congr 2
 apply List.ext_getElem?
 intro j
 by_cases h : i = j
 ·subst h; rw [List.getElem?_set_self hil,hi]
 ·rw [List.getElem?_set_ne h]
theorem We.Map {α β : Type} (enc : α → Dat) (xs : List α) (f : α → β) (enc2 : β → Dat) {it : FI} {k : Nat} {el : FE} {ρ ρ1 : Env} {Q : Val → Env → Prop}
  (q : Q (.new (.lst ((xs.map f).map enc2))) ρ1) (hit : it ρ = some (xs.map enc,ρ1)) (hk : ρ1.length = k) (hk0 : k ≠ 0) (hl : xs.length ≤ SZ)
  (he : ∀ x ∈ xs,We el (ρ1 ++ [.sh (enc x)]) fun w ρ' => Wk ρ' w fun d ρ'' => d = enc2 (f x) ∧ ρ'' = ρ1 ++ [.sh (enc x)]) : We (eComp it 1 (bN k) tTrue el) ρ Q :=
 We.Comp enc xs (fun _ => true) (fun x => enc2 (f x)) (by rw [List.filter_eq_self.mpr (fun _ _ => rfl)]; rw [List.map_map] at q; exact q) hit hk hk0 hl (fun _ _ => Wt.T ⟨rfl,rfl⟩) fun x hx _ => he x hx
theorem We.MapS {α β : Type} (enc : α → Dat) (xs : List α) (f : α → β) (enc2 : β → Dat) {i : Nat} {k : Nat} {el : FE} {ρ : Env} {Q : Val → Env → Prop} {d : Dat}
  (q : Q (.new (.lst ((xs.map f).map enc2))) ρ) (hi : ρ[i]? = some (.sh d)) (hd : seqD d = some (xs.map enc)) (hk : ρ.length = k) (hk0 : k ≠ 0) (hl : xs.length ≤ SZ)
  (he : ∀ x ∈ xs,We el (ρ ++ [.sh (enc x)]) fun w ρ' => Wk ρ' w fun d ρ'' => d = enc2 (f x) ∧ ρ'' = ρ ++ [.sh (enc x)]) : We (eCompM i 1 (bN k) tTrue el) ρ Q :=
 We.CompS enc xs (fun _ => true) (fun x => enc2 (f x)) (by rw [List.filter_eq_self.mpr (fun _ _ => rfl)]; rw [List.map_map] at q; exact q) hi hd hk hk0 hl (fun _ _ => Wt.T ⟨rfl,rfl⟩) fun x hx _ => he x hx
theorem We.MapO {α β : Type} (enc : α → Dat) (xs : List α) (f : α → β) (enc2 : β → Dat) {i : Nat} {k : Nat} {el : FE} {ρ ρ1 : Env} {Q : Val → Env → Prop}
  (q : Q (.new (.lst ((xs.map f).map enc2))) ρ) (hi : ρ[i]? = some (.ow (.lst (xs.map enc)))) (h1 : ρ.set i .un = ρ1) (hk : ρ.length = k) (hk0 : k ≠ 0) (hl : xs.length ≤ SZ)
  (he : ∀ x ∈ xs,We el (ρ1 ++ [.sh (enc x)]) fun w ρ' => Wk ρ' w fun d ρ'' => d = enc2 (f x) ∧ ρ'' = ρ1 ++ [.sh (enc x)]) : We (eCompM i 1 (bN k) tTrue el) ρ Q :=
 We.CompO enc xs (fun _ => true) (fun x => enc2 (f x)) (by rw [List.filter_eq_self.mpr (fun _ _ => rfl)]; rw [List.map_map] at q; exact q) hi h1 hk hk0 hl (fun _ _ => Wt.T ⟨rfl,rfl⟩) fun x hx _ => he x hx
theorem gEq_int (i j : Int) : gEq (.int i) (.int j) = vB (decide (i = j)) := by
 have : (i == j) = decide (i = j) := by by_cases h : i = j <;> simp [h]
 show vB (i == j) = _
 rw [this]
theorem gNe_int (i j : Int) : gNe (.int i) (.int j) = vB (!decide (i = j)) := by
 have : (i == j) = decide (i = j) := by by_cases h : i = j <;> simp [h]
 show vB (!(i == j)) = _
 rw [this]
theorem Wg2.eq {i j : Int} {o p : Option Dat} {K : RV → Prop} (k : K (.val (.bl (decide (i = j))))) (ho : o = some (.int i)) (hp : p = some (.int j)) : Wg2 gEq o p K := ⟨_,_,_,ho,hp,gEq_int i j,k⟩
theorem Wg2.ne {i j : Int} {o p : Option Dat} {K : RV → Prop} (k : K (.val (.bl (!decide (i = j))))) (ho : o = some (.int i)) (hp : p = some (.int j)) : Wg2 gNe o p K := ⟨_,_,_,ho,hp,gNe_int i j,k⟩
theorem Wg2.neb {i j : Bool} {o p : Option Dat} {K : RV → Prop} (k : K (.val (.bl (!(i == j))))) (ho : o = some (.bl i)) (hp : p = some (.bl j)) : Wg2 gNe o p K := ⟨_,_,_,ho,hp,rfl,k⟩
theorem Wg2.lt {i j : Int} {o p : Option Dat} {K : RV → Prop} (k : K (.val (.bl (decide (i < j))))) (ho : o = some (.int i)) (hp : p = some (.int j)) : Wg2 gLt o p K := ⟨_,_,_,ho,hp,rfl,k⟩
theorem Wg2.gt {i j : Int} {o p : Option Dat} {K : RV → Prop} (k : K (.val (.bl (decide (j < i))))) (ho : o = some (.int i)) (hp : p = some (.int j)) : Wg2 gGt o p K := ⟨_,_,_,ho,hp,rfl,k⟩
theorem Wg2.ge {i j : Int} {o p : Option Dat} {K : RV → Prop} (k : K (.val (.bl (decide (j ≤ i))))) (ho : o = some (.int i)) (hp : p = some (.int j)) : Wg2 gGe o p K := ⟨_,_,_,ho,hp,rfl,k⟩
theorem Wg2.add {i j : Int} {o p : Option Dat} {K : RV → Prop} (k : K (.val (.int (i + j)))) (ho : o = some (.int i)) (hp : p = some (.int j)) : Wg2 gAdd o p K := ⟨_,_,_,ho,hp,rfl,k⟩
theorem Wg2.addL {xs ys : List Dat} {o p : Option Dat} {K : RV → Prop} (k : K (.new (.lst (xs ++ ys)))) (ho : o = some (.lst xs)) (hp : p = some (.lst ys)) (h : xs.length + ys.length ≤ SZ) : Wg2 gAdd o p K := ⟨_,_,_,ho,hp,by unfold gAdd; dsimp only; rw [if_pos h],k⟩
theorem Wg2.sub {i j : Int} {o p : Option Dat} {K : RV → Prop} (k : K (.val (.int (i - j)))) (ho : o = some (.int i)) (hp : p = some (.int j)) : Wg2 gSub o p K := ⟨_,_,_,ho,hp,rfl,k⟩
theorem Wg2.mul {i j : Int} {o p : Option Dat} {K : RV → Prop} (k : K (.val (.int (i * j)))) (ho : o = some (.int i)) (hp : p = some (.int j)) (h : (-B64 < i ∧ i < B64) ∨ (-B64 < j ∧ j < B64)) : Wg2 gMul o p K := ⟨_,_,_,ho,hp,by unfold gMul; dsimp only; rw [if_pos h],k⟩
theorem Wg2.div {i j : Int} {o p : Option Dat} {K : RV → Prop} (k : K (.val (.int (i / j)))) (ho : o = some (.int i)) (hp : p = some (.int j)) (h : 0 < j ∧ j < B200) : Wg2 gDiv o p K := ⟨_,_,_,ho,hp,by unfold gDiv; dsimp only; rw [if_pos h],k⟩
theorem Wg2.mod {i j : Int} {o p : Option Dat} {K : RV → Prop} (k : K (.val (.int (i % j)))) (ho : o = some (.int i)) (hp : p = some (.int j)) (h : 0 < j) : Wg2 gMod o p K := ⟨_,_,_,ho,hp,by unfold gMod; dsimp only; rw [if_pos h],k⟩
theorem Wg2.pow {i j z : Int} {o p : Option Dat} {K : RV → Prop} (k : K (.val (.int z))) (ho : o = some (.int i)) (hp : p = some (.int j)) (h : 0 ≤ j ∧ j ≤ 1000000 ∧ i.natAbs < 1000000) (hz : i ^ j.toNat = z) : Wg2 gPow o p K := ⟨_,_,_,ho,hp,by unfold gPow; dsimp only; rw [if_pos h,hz],k⟩
theorem Wg2.ix {d e : Dat} {v : Dat} {o p : Option Dat} {K : RV → Prop} (k : K (.val v)) (ho : o = some d) (hp : p = some e) (h : gIx d e = some (.val v)) : Wg2 gIx o p K := ⟨_,_,_,ho,hp,h,k⟩
theorem atI_map {α : Type} (enc : α → Dat) (xs : List α) (i : Int) (h0 : 0 ≤ i) (h1 : i < xs.length) : atI (xs.map enc) i = some (enc (xs[i.toNat]'(by omega))) := by
 unfold atI ixN
 rw [List.length_map,if_pos h0,if_pos h1]
 show (xs.map enc)[i.toNat]? = _
 rw [List.getElem?_map,List.getElem?_eq_getElem (by omega)]
 rfl
theorem inD_int (i : Int) (xs : List Int) : inD (.int i) (xs.map Dat.int) = decide (i ∈ xs) := by
 induction xs with
 | nil => rfl
 | cons x xs ih =>
  have ih' : (xs.map Dat.int).any (fun y => eqD y (.int i)) = decide (i ∈ xs) := ih
  unfold inD
  rw [List.map_cons,List.any_cons,ih']
  show ((x == i) || _) = _
  by_cases h : x = i
  ·simp [h]
  ·have h' : ¬ i = x := fun z => h z.symm
   simp [h,h']
theorem okInts (xs : List Int) : (xs.map Dat.int).all (okD 7) = true := by
 rw [List.all_eq_true]
 intro d hd
 obtain ⟨x,_,rfl⟩ := List.mem_map.mp hd
 rfl
theorem Wg2.inT {i : Int} {xs : List Int} {o p : Option Dat} {K : RV → Prop} (k : K (.val (.bl (decide (i ∈ xs))))) (ho : o = some (.int i)) (hp : p = some (.tup (xs.map Dat.int))) : Wg2 gIn o p K :=
 ⟨_,_,_,ho,hp,by unfold gIn; dsimp only; rw [show okD 8 (.int i) = true from rfl,okInts,inD_int]; rfl,k⟩
theorem Wg2.din {i : Int} {ks : List Int} {vs : List Dat} {o p : Option Dat} {K : RV → Prop} (k : K (.val (.bl (lookD ks vs i).isSome))) (ho : o = some (.int i)) (hp : p = some (.dct ks vs)) : Wg2 gDin o p K := ⟨_,_,_,ho,hp,rfl,k⟩
theorem Wg2.dnin {i : Int} {ks : List Int} {vs : List Dat} {o p : Option Dat} {K : RV → Prop} (k : K (.val (.bl (!(lookD ks vs i).isSome)))) (ho : o = some (.int i)) (hp : p = some (.dct ks vs)) : Wg2 gDnin o p K := ⟨_,_,_,ho,hp,rfl,k⟩
theorem Wg2.dx {i : Int} {ks : List Int} {vs : List Dat} {d : Dat} {o p : Option Dat} {K : RV → Prop} (h : lookD ks vs i = some d) (k : K (.val d)) (ho : o = some (.dct ks vs)) (hp : p = some (.int i)) : Wg2 gDx o p K := ⟨_,_,_,ho,hp,by unfold gDx; dsimp only; rw [h]; rfl,k⟩
theorem WB.lenT {xs : List Dat} {o : Option (List Dat)} {K : RV → Prop} (k : K (.val (.int xs.length))) (ho : o = some [.tup xs]) : WB gLen o K := ⟨_,_,ho,rfl,k⟩
theorem WB.min2 {i j : Int} {o : Option (List Dat)} {K : RV → Prop} (k : K (.val (.int (if j < i then j else i)))) (ho : o = some [.int i,.int j]) : WB gMin2 o K := ⟨_,_,ho,rfl,k⟩
theorem WB.max2 {i j : Int} {o : Option (List Dat)} {K : RV → Prop} (k : K (.val (.int (if j > i then j else i)))) (ho : o = some [.int i,.int j]) : WB gMax2 o K := ⟨_,_,ho,rfl,k⟩
theorem WB.list {xs : List Dat} {o : Option (List Dat)} {K : RV → Prop} (k : K (.new (.lst xs))) (ho : o = some [.lst xs]) : WB gList o K := ⟨_,_,ho,rfl,k⟩
theorem Wg1.mk {g : Dat → Option RV} {d : Dat} {v : RV} {o : Option Dat} {K : RV → Prop} (k : K v) (ho : o = some d) (h : g d = some v) : Wg1 g o K := ⟨_,_,ho,h,k⟩
theorem seqL_go {xs : List Dat} {Q : List Dat → Prop} (q : Q xs) : ∃ ds,seqD (.lst xs) = some ds ∧ Q ds := ⟨_,rfl,q⟩
theorem ndT {p : Prop} [Decidable p] (h : (!decide p) = true) : ¬ p := by intro z; rw [decide_eq_true z] at h; cases h
theorem ndF {p : Prop} [Decidable p] (h : (!decide p) = false) : p := Decidable.byContradiction fun z => by rw [decide_eq_false z] at h; cases h
theorem gNe_nil (xs : List Dat) (h : okD 8 (.lst xs) = true) : gNe (.lst xs) (.lst []) = vB (!xs.isEmpty) := by
 unfold gNe
 rw [h]
 cases xs <;> rfl
theorem okMap {α : Type} (enc : α → Dat) (xs : List α) (h : ∀ x,okD 7 (enc x) = true) : okD 8 (.lst (xs.map enc)) = true := by
 unfold okD
 rw [List.all_eq_true]
 intro d hd
 obtain ⟨x,_,rfl⟩ := List.mem_map.mp hd
 exact h x
theorem Wg2.nenil {xs : List Dat} {o p : Option Dat} {K : RV → Prop} (k : K (.val (.bl (!xs.isEmpty)))) (ho : o = some (.lst xs)) (hp : p = some (.lst [])) (h : okD 8 (.lst xs) = true) : Wg2 gNe o p K := ⟨_,_,_,ho,hp,gNe_nil xs h,k⟩
theorem Wg2.addI {xs ys : List Int} {o p : Option Dat} {K : RV → Prop} (k : K (.new (.lst ((xs ++ ys).map Dat.int)))) (ho : o = some (.lst (xs.map Dat.int))) (hp : p = some (.lst (ys.map Dat.int))) (h : xs.length + ys.length ≤ SZ) : Wg2 gAdd o p K := ⟨_,_,_,ho,hp,by unfold gAdd; dsimp only; rw [List.length_map,List.length_map,if_pos h,List.map_append],k⟩
theorem Wg2.addI1 {xs : List Int} {y : Int} {o p : Option Dat} {K : RV → Prop} (k : K (.new (.lst ((xs ++ [y]).map Dat.int)))) (ho : o = some (.lst (xs.map Dat.int))) (hp : p = some (.lst [.int y])) (h : xs.length + 1 ≤ SZ) : Wg2 gAdd o p K := Wg2.addI (ys := [y]) k ho hp h
theorem WB.lenI {α : Type} {enc : α → Dat} {xs : List α} {o : Option (List Dat)} {K : RV → Prop} (k : K (.val (.int xs.length))) (ho : o = some [.lst (xs.map enc)]) : WB gLen o K := ⟨_,_,ho,by unfold gLen; dsimp only; rw [List.length_map],k⟩
theorem Ws.mono {s : FS} {ρ : Env} {N N' : Env → Prop} {R : RV → Env → Prop} {B C : Env → Prop} (h : Ws s ρ N' R B C) (k : ∀ ρ',N' ρ' → N ρ') : Ws s ρ N R B C := by
 obtain ⟨o,h1,h2⟩ := h
 cases o with
 | nx ρ1 => exact ⟨.nx ρ1,h1,k _ h2⟩
 | ret r ρ1 => exact ⟨.ret r ρ1,h1,h2⟩
 | bk ρ1 => exact ⟨.bk ρ1,h1,h2⟩
 | ct ρ1 => exact ⟨.ct ρ1,h1,h2⟩
theorem own_go {ρ : Env} {i : Nat} {d : Dat} {W : Prop} (h : ρ[i]? = some (.ow d)) (w : W) : (∃ d0,ρ[i]? = some (.ow d0)) ∧ W := ⟨⟨d,h⟩,w⟩
theorem We.D1 {a b : FE} {ρ : Env} {Q : Val → Env → Prop} (h : We a ρ fun v ρ1 => Wint v fun i => We b ρ1 fun x ρ2 => Wk ρ2 x fun d ρ3 => Q (.new (.dct [i] [d])) ρ3) : We (eD1 a b) ρ Q := by
 obtain ⟨v,ρ1,h1,i,rfl,x,ρ2,h2,d,ρ3,h3,q⟩ := h
 exact ⟨_,_,by unfold eD1; rw [h1]; dsimp only; rw [h2]; dsimp only; rw [h3],q⟩
theorem bind_go {bd : FB} {d : Dat} {ρ ρ1 ρ2 : Env} {W : Env → Prop} (h : bd d ρ = some ρ1) (hn : ρ1 = ρ2) (w : W ρ2) : ∃ ρ1,bd d ρ = some ρ1 ∧ W ρ1 := ⟨ρ1,h,hn ▸ w⟩
theorem compG {α : Type} (enc : α → Dat) (p : α → Bool) (v : α → Dat) (bd : FB) (t : FT) (el : FE) (e0 : Env) (env : α → Env) (h0 : ∀ x,bd (enc x) e0 = some (env x)) (h1 : ∀ x y,bd (enc x) (env y) = some (env x)) : ∀ (xs : List α) (acc : List Dat) (e : Env),(e = e0 ∨ ∃ y,e = env y) →
  (∀ x ∈ xs,t (env x) = some (p x,env x)) → (∀ x ∈ xs,p x = true → We el (env x) fun w ρ' => Wk ρ' w fun d ρ'' => d = v x ∧ ρ'' = env x) →
  ∃ e',(e' = e0 ∨ ∃ y,e' = env y) ∧ compD bd t el (xs.map enc) e acc = some (acc ++ (xs.filter p).map v,e')
 | [],acc,e,he,_,_ => ⟨e,he,by simp [compD]⟩
 | x :: xs,acc,e,he,ht,hel => by
  have hb : bd (enc x) e = some (env x) := by
   rcases he with rfl | ⟨y,rfl⟩
   ·exact h0 x
   ·exact h1 x y
  rw [List.map_cons,compD,hb]
  dsimp only
  rw [ht x List.mem_cons_self]
  have ht' := fun y hy => ht y (List.mem_cons_of_mem _ hy)
  have he' := fun y hy => hel y (List.mem_cons_of_mem _ hy)
  by_cases h : p x = true
  ·obtain ⟨w,ρ',g1,d,ρ'',g2,rfl,rfl⟩ := hel x List.mem_cons_self h
   rw [h]
   dsimp only
   rw [g1]
   dsimp only
   rw [g2]
   obtain ⟨e',q,z⟩ := compG enc p v bd t el e0 env h0 h1 xs (acc ++ [v x]) _ (.inr ⟨x,rfl⟩) ht' he'
   exact ⟨e',q,by dsimp only; rw [z,List.filter_cons_of_pos h]; simp⟩
  ·rw [Bool.not_eq_true] at h
   rw [h]
   obtain ⟨e',q,z⟩ := compG enc p v bd t el e0 env h0 h1 xs acc _ (.inr ⟨x,rfl⟩) ht' he'
   exact ⟨e',q,by dsimp only; rw [z,List.filter_cons_of_neg (by rw [h]; decide)]⟩
theorem We.CompG {α β : Type} (enc : α → Dat) (xs : List α) (p : α → Bool) (f : α → β) (enc2 : β → Dat) (env : α → Env) {it : FI} {own : Nat} {bd : FB} {t : FT} {el : FE} {ρ ρ1 : Env} {Q : Val → Env → Prop}
  (q : Q (.new (.lst (((xs.filter p).map f).map enc2))) ρ1) (hit : it ρ = some (xs.map enc,ρ1)) (h0 : ∀ x,bd (enc x) (ρ1 ++ List.replicate own .un) = some (env x)) (h1 : ∀ x y,bd (enc x) (env y) = some (env x)) (h2 : ∀ x,(env x).take ρ1.length = ρ1) (hl : xs.length ≤ SZ)
  (ht : ∀ x ∈ xs,Wt t (env x) fun c ρ' => c = p x ∧ ρ' = env x)
  (he : ∀ x ∈ xs,p x = true → We el (env x) fun w ρ' => Wk ρ' w fun d ρ'' => d = enc2 (f x) ∧ ρ'' = env x) : We (eComp it own bd t el) ρ Q := by
 obtain ⟨e',q',e⟩ := compG enc p (fun x => enc2 (f x)) bd t el _ env h0 h1 xs [] _ (.inl rfl) (fun x hx => Wt.get (ht x hx)) he
 refine ⟨_,_,?_,q⟩
 unfold eComp
 rw [hit]
 dsimp only
 rw [if_pos (by rw [List.length_map]; exact hl),e]
 dsimp only
 rw [List.nil_append,List.map_map]
 have : e'.take ρ1.length = ρ1 := by
  rcases q' with rfl | ⟨y,rfl⟩
  ·exact List.take_left
  ·exact h2 y
 rw [this]
 rfl
theorem We.SelS3 {α β : Type} (enc : α → Dat) (xs : List α) (p : α → Bool) (f : α → β) (enc2 : β → Dat) (d1 d2 d3 : α → Dat) (henc : ∀ x,enc x = .tup [d1 x,d2 x,d3 x]) {i k : Nat} {t : FT} {el : FE} {ρ : Env} {Q : Val → Env → Prop} {d : Dat}
  (q : Q (.new (.lst (((xs.filter p).map f).map enc2))) ρ) (hi : ρ[i]? = some (.sh d)) (hd : seqD d = some (xs.map enc)) (hk : ρ.length = k) (hk0 : k ≠ 0) (hl : xs.length ≤ SZ)
  (ht : ∀ x ∈ xs,Wt t (ρ ++ [.sh (d1 x),.sh (d2 x),.sh (d3 x)]) fun c ρ' => c = p x ∧ ρ' = ρ ++ [.sh (d1 x),.sh (d2 x),.sh (d3 x)])
  (he : ∀ x ∈ xs,p x = true → We el (ρ ++ [.sh (d1 x),.sh (d2 x),.sh (d3 x)]) fun w ρ' => Wk ρ' w fun d ρ'' => d = enc2 (f x) ∧ ρ'' = ρ ++ [.sh (d1 x),.sh (d2 x),.sh (d3 x)]) : We (eCompM i 3 (bT [k,k + 1,k + 2]) t el) ρ Q := by
 have hit : iS (eV i) ρ = some (xs.map enc,ρ) := by
  unfold iS eV
  rw [hi]
  cases d with
  | lst ys => cases hd; rfl
  | tup ys => cases hd; rfl
  | _ => cases hd
 have b : ∀ (x : α) (c1 c2 c3 : Cell),bT [k,k + 1,k + 2] (enc x) (ρ ++ [c1,c2,c3]) = some (ρ ++ [.sh (d1 x),.sh (d2 x),.sh (d3 x)]) := fun x c1 c2 c3 => by
  rw [henc]
  show sets [k,k + 1,k + 2] [d1 x,d2 x,d3 x] _ = _
  rw [sets,if_neg hk0,sets,if_neg (by omega),sets,if_neg (by omega),sets]
  rw [List.set_append_right _ _ (by omega),List.set_append_right _ _ (by omega),List.set_append_right _ _ (by omega)]
  subst hk
  rw [Nat.sub_self,show ρ.length + 1 - ρ.length = 1 by omega,show ρ.length + 2 - ρ.length = 2 by omega]
  rfl
 obtain ⟨a,ρ',g1,g2⟩ := We.CompG enc xs p f enc2 (fun x => (ρ ++ [Cell.sh (d1 x),Cell.sh (d2 x),Cell.sh (d3 x)] : Env)) (own := 3) (bd := bT [k,k + 1,k + 2]) (Q := Q) q hit (fun x => b x .un .un .un) (fun x y => b x (.sh (d1 y)) (.sh (d2 y)) (.sh (d3 y))) (fun x => List.take_left) hl ht he
 refine ⟨a,ρ',?_,g2⟩
 unfold eCompM
 rw [hi]
 exact g1
theorem WB.tuple {xs : List Dat} {o : Option (List Dat)} {K : RV → Prop} (k : K (.val (.tup xs))) (ho : o = some [.lst xs]) : WB gTuple o K := ⟨_,_,ho,rfl,k⟩
theorem intsD_map' (ns : List Int) : intsD (ns.map Dat.int) = some ns := by
 induction ns with
 | nil => rfl
 | cons m ms ih => rw [List.map_cons,intsD,ih]; rfl
theorem gNe_ints (N M : List Int) : gNe (.lst (N.map Dat.int)) (.lst (M.map Dat.int)) = vB (!decide (N = M)) := by
 have ok : ∀ ns : List Int,okD 8 (.lst (ns.map Dat.int)) = true := fun ns => okMap Dat.int ns fun _ => rfl
 have eq : ∀ N M : List Int,eqDs (N.map Dat.int) (M.map Dat.int) = decide (N = M) := fun N => by
  induction N with
  | nil => intro M; cases M <;> rfl
  | cons n N ih =>
   intro M
   cases M with
   | nil => rfl
   | cons m M =>
    rw [List.map_cons,List.map_cons,eqDs,ih M]
    show ((n == m) && _) = _
    rw [Bool.eq_iff_iff]
    simp
 unfold gNe
 rw [ok,ok]
 show vB (!eqDs _ _) = _
 rw [eq]
theorem Wg2.neI {N M : List Int} {o p : Option Dat} {K : RV → Prop} (k : K (.val (.bl (!decide (N = M))))) (ho : o = some (.lst (N.map Dat.int))) (hp : p = some (.lst (M.map Dat.int))) : Wg2 gNe o p K := ⟨_,_,_,ho,hp,gNe_ints N M,k⟩
theorem Ws.wh {t : FT} {body : FS} {N : Env → Prop} {R : RV → Env → Prop} {B C : Env → Prop} (I : Nat → Env → Prop)
  (hs : ∀ k ρ,I k ρ → Wt t ρ fun c ρ1 => Wif c (Ws body ρ1 (fun ρ2 => ∃ k',k' < k ∧ I k' ρ2) R N (fun ρ2 => ∃ k',k' < k ∧ I k' ρ2)) (N ρ1)) : ∀ (n k : Nat) (ρ : Env),k < n → I k ρ → Ws (whD t body n) ρ N R B C
 | 0,k,_,h,_ => absurd h (Nat.not_lt_zero k)
 | n + 1,k,ρ,h,i => by
  obtain ⟨c,ρ1,h1,h2,h3⟩ := hs k ρ i
  cases c with
  | false => exact ⟨.nx _,by rw [whD,h1],h3 rfl⟩
  | true =>
   obtain ⟨o,h4,h5⟩ := h2 rfl
   cases o with
   | nx ρ2 =>
    obtain ⟨k',hk,i'⟩ := h5
    obtain ⟨o,h6,h7⟩ := Ws.wh (N := N) (R := R) (B := B) (C := C) I hs n k' ρ2 (by omega) i'
    exact ⟨o,by rw [whD,h1]; dsimp only; rw [h4]; exact h6,h7⟩
   | ct ρ2 =>
    obtain ⟨k',hk,i'⟩ := h5
    obtain ⟨o,h6,h7⟩ := Ws.wh (N := N) (R := R) (B := B) (C := C) I hs n k' ρ2 (by omega) i'
    exact ⟨o,by rw [whD,h1]; dsimp only; rw [h4]; exact h6,h7⟩
   | bk ρ2 => exact ⟨.nx _,by rw [whD,h1]; dsimp only; rw [h4],h5⟩
   | ret r ρ2 => exact ⟨.ret _ _,by rw [whD,h1]; dsimp only; rw [h4],h5⟩
theorem bools_map {α : Type} (p : α → Bool) (xs : List α) : bools (xs.map fun x => Dat.bl (p x)) = some (xs.map p) := by
 induction xs with
 | nil => rfl
 | cons x xs ih => rw [List.map_cons,bools,ih]; rfl
theorem WB.all {α : Type} (p : α → Bool) {xs : List α} {o : Option (List Dat)} {K : RV → Prop} (k : K (.val (.bl (xs.all p)))) (ho : o = some [.lst (xs.map fun x => Dat.bl (p x))]) : WB gAll o K := ⟨_,_,ho,by
 unfold gAll
 dsimp only
 rw [bools_map]
 have : (xs.map p).all id = xs.all p := by rw [List.all_map]; rfl
 dsimp only
 rw [this],k⟩
theorem We.Pop {i : Nat} {ρ ρ2 : Env} {ds : List Dat} {d : Dat} {Q : Val → Env → Prop} (q : Q (.val d) ρ2) (h : ρ[i]? = some (.ow (.lst (ds ++ [d])))) (hs : ρ.set i (.ow (.lst ds)) = ρ2) : We (ePop i) ρ Q := ⟨_,_,by
 unfold ePop
 rw [h]
 dsimp only
 have e1 : (ds ++ [d]).length - 1 = ds.length := by simp
 have e2 : (ds ++ [d])[ds.length]? = some d := by simp
 have e3 : (ds ++ [d]).take ds.length = ds := List.take_left
 rw [e1,e2]
 dsimp only
 rw [e3,hs],q⟩
theorem WB.sumL {ns : List Int} {o : Option (List Dat)} {K : RV → Prop} (k : K (.val (.int (sumI ns)))) (ho : o = some [.lst (ns.map Dat.int)]) : WB gSumL o K := ⟨_,_,ho,by unfold gSumL; dsimp only; rw [intsD_map'],k⟩
theorem Ws.cut {s u : FS} {ρ : Env} {N : Env → Prop} {R : RV → Env → Prop} {B C : Env → Prop} (J : Env → Prop) (h1 : Ws s ρ J R B C) (h2 : ∀ ρ',J ρ' → Ws u ρ' N R B C) : Ws (sSeq s u) ρ N R B C := Ws.seq (Ws.mono h1 h2)
def WrM (o : Option (RV × Dat)) (P : RV → Dat → Prop) : Prop := ∃ z d,o = some (z,d) ∧ P z d
theorem WrM.fn {n m : Nat} {body : FS} {d : Dat} {r : List Dat} {ρ : Env} {P : RV → Dat → Prop} (b : Ws body ρ (fun ρ' => ∃ d',ρ'[0]? = some (.ow d') ∧ P (.val .non) d') (fun z ρ' => ∃ d',ρ'[0]? = some (.ow d') ∧ P z d') (fun _ => False) (fun _ => False)) (hρ : Cell.ow d :: (r.map Cell.sh ++ List.replicate m .un) = ρ) (h : (d :: r).length = n) : WrM (fnM n m body (d :: r)) P := by
 obtain ⟨o,h1,h2⟩ := b
 cases o with
 | nx ρ1 => obtain ⟨d',h3,h4⟩ := h2; exact ⟨_,_,by unfold fnM; rw [if_pos h]; dsimp only; rw [hρ,h1]; dsimp only; rw [h3],h4⟩
 | ret z ρ1 => obtain ⟨d',h3,h4⟩ := h2; exact ⟨_,_,by unfold fnM; rw [if_pos h]; dsimp only; rw [hρ,h1]; dsimp only; rw [h3],h4⟩
 | bk ρ1 => exact h2.elim
 | ct ρ1 => exact h2.elim
def WFm (f : List Dat → Option (RV × Dat)) (j : Nat) (ρ1 : Env) (xs : List Val) (Q : Val → Env → Prop) : Prop :=
 ∃ d1 ds ρ2 d v d',ρ1[j]? = some (.ow d1) ∧ tks ρ1 xs = some (ds,ρ2) ∧ ρ2[j]? = some (.ow d) ∧ f (d :: ds) = some (v,d') ∧ (if (flat v.dat && plainL d') = true then Q v.toVal (ρ1.set j (.ow d')) else Q v.toVal (ρ2.set j (.ow d')))
theorem We.Fm {f : List Dat → Option (RV × Dat)} {j : Nat} {as : List FE} {ρ : Env} {d0 : Dat} {Q : Val → Env → Prop} (h : Was as ρ fun xs ρ1 => WFm f j ρ1 xs Q) (h0 : ρ[j]? = some (.ow d0)) : We (eFm f j as) ρ Q := by
 obtain ⟨xs,ρ1,h1,d1,ds,ρ2,d,v,d',h2,h3,h4,h5,q⟩ := h
 by_cases c : (flat v.dat && plainL d') = true
 ·rw [if_pos c] at q
  exact ⟨_,_,by unfold eFm; rw [h0]; dsimp only; rw [h1]; dsimp only; rw [h2]; dsimp only; rw [h3]; dsimp only; rw [h4]; dsimp only; rw [h5]; dsimp only; rw [if_pos c],q⟩
 ·rw [if_neg c] at q
  exact ⟨_,_,by unfold eFm; rw [h0]; dsimp only; rw [h1]; dsimp only; rw [h2]; dsimp only; rw [h3]; dsimp only; rw [h4]; dsimp only; rw [h5]; dsimp only; rw [if_neg c],q⟩
theorem WFm.any {f : List Dat → Option (RV × Dat)} {j : Nat} {ρ1 ρ3 : Env} {xs : List Val} {d d' : Dat} {ds : List Dat} {v : RV} {Q : Val → Env → Prop} (h5 : f (d :: ds) = some (v,d')) (q : Q v.toVal ρ3) (h2 : ρ1[j]? = some (.ow d)) (h3 : tks ρ1 xs = some (ds,ρ1)) (hn : ρ1.set j (.ow d') = ρ3) : WFm f j ρ1 xs Q :=
 ⟨_,_,_,_,_,_,h2,h3,h2,h5,by rw [hn]; split <;> exact q⟩
theorem Wi.get {it : FI} {ρ ρ1 : Env} {ds : List Dat} (h : Wi it ρ fun x y => x = ds ∧ y = ρ1) : it ρ = some (ds,ρ1) := by
 obtain ⟨_,_,h1,rfl,rfl⟩ := h; exact h1
theorem We.Fk {k : Nat} {f : List Dat → Option RV} {as : List FE} {ρ : Env} {Q : Val → Env → Prop} (h : Was as ρ fun xs ρ1 => ∃ ds ρ2 v,tksk k ρ1 xs = some (ds,ρ2) ∧ f ds = some v ∧ noLk k v.dat = true ∧ Q v.toVal ρ2) : We (eFk k f as) ρ Q := by
 obtain ⟨xs,ρ1,e1,ds,ρ2,v,e2,e3,e4,q⟩ := h
 exact ⟨_,_,by unfold eFk; rw [e1]; dsimp only; rw [e2]; dsimp only; rw [e3]; dsimp only; rw [if_pos e4],q⟩
theorem noLks_map {α : Type} (k : Nat) (enc : α → Dat) (xs : List α) (h : ∀ x,noLk k (enc x) = true) : noLks k (xs.map enc) = true := by
 induction xs with
 | nil => rfl
 | cons x xs ih => rw [List.map_cons,noLks,h x,ih]; rfl
def Wm (g : FM) (ρ : Env) (p : Dp) (N : Env → Prop) (R : RV → Env → Prop) (B C : Env → Prop) : Prop := ∃ o,g ρ p = some o ∧ KO N R B C o
section
variable {N : Env → Prop} {R : RV → Env → Prop} {B C : Env → Prop} {ρ : Env} {p : Dp}
theorem Wm.no {j : Nat} {t : FT} {fs : FS} {g : FM} {ρ' : Env} (h : Wt t ρ' fun c _ => c = false) (k : Wm g ρ p N R B C) (e : see j ρ p = ρ') : Wm (mIf j t fs g) ρ p N R B C := by
 obtain ⟨c,ρ1,h1,rfl⟩ := h
 obtain ⟨o,h3,h4⟩ := k
 exact ⟨o,by unfold mIf; rw [e,h1]; exact h3,h4⟩
theorem Wm.clr {z : Int} {gs : FS} {xs ys : List Dp} {m : Nat} (k : Ws gs ρ N R B C) (h1 : ixN xs.length z = some m) (h2 : xs[m]? = some (.l ys)) : Wm (mClr z gs) ρ (.t xs) N R B C := by
 obtain ⟨o,h3,h4⟩ := k
 exact ⟨o,by unfold mClr; dsimp only; rw [h1]; dsimp only; rw [h2]; exact h3,h4⟩
theorem Wm.fin {gs : FS} (k : Ws gs ρ N R B C) : Wm (mEnd gs) ρ p N R B C := k
end
def Wq (g : FSP) (ρ : Env) (P : Dp → Prop) : Prop := ∃ p,g ρ = some p ∧ P p
def Wp' (f : FP) (ρ : Env) (Q : Dp → Env → Prop) : Prop := ∃ p ρ',f ρ = some (p,ρ') ∧ Q p ρ'
def Wpa (fs : List FP) (ρ : Env) (Q : List Dp → Env → Prop) : Prop := ∃ p ρ',pAs fs ρ = some (p,ρ') ∧ Q p ρ'
section
variable {ρ : Env} {P : Dp → Prop}
theorem Wq.fn {n m : Nat} {g : FSP} {ds : List Dat} {ρ : Env} (h : Wq g ρ P) (hl : ds.length = n) (e : ds.map Cell.sh ++ List.replicate m .un = ρ) : ∃ p,fnP n m g ds = some p ∧ P p := by
 obtain ⟨p,h1,h2⟩ := h
 exact ⟨p,by unfold fnP; rw [if_pos hl,e]; exact h1,h2⟩
theorem Wq.seq {s : FS} {g : FSP} (h : Ws s ρ (fun ρ1 => Wq g ρ1 P) (fun _ _ => False) (fun _ => False) (fun _ => False)) : Wq (qSeq s g) ρ P := by
 obtain ⟨o,h1,h2⟩ := h
 cases o with
 | nx ρ1 =>
  obtain ⟨p,h3,h4⟩ := h2
  exact ⟨p,by unfold qSeq; rw [h1]; exact h3,h4⟩
 | ret _ _ => exact h2.elim
 | bk _ => exact h2.elim
 | ct _ => exact h2.elim
theorem Wq.ret {f : FP} (h : Wp' f ρ fun p _ => P p) : Wq (qR f) ρ P := by
 obtain ⟨p,ρ',h1,h2⟩ := h
 exact ⟨p,by unfold qR; rw [h1],h2⟩
theorem Wp'.val {f : FE} {d : Dat} {Q : Dp → Env → Prop} (h : We f ρ fun v ρ1 => v = .val d ∧ Q (.s d) ρ1) : Wp' (pO f) ρ Q := by
 obtain ⟨v,ρ1,h1,rfl,h2⟩ := h
 exact ⟨_,_,by unfold pO; rw [h1],h2⟩
theorem Wp'.new {f : FE} {ds : List Dat} {Q : Dp → Env → Prop} (h : We f ρ fun v ρ1 => v = .new (.lst ds) ∧ Q (.l (ds.map .s)) ρ1) : Wp' (pO f) ρ Q := by
 obtain ⟨v,ρ1,h1,rfl,h2⟩ := h
 exact ⟨_,_,by unfold pO; rw [h1],h2⟩
theorem Wpa.nil {Q : List Dp → Env → Prop} (q : Q [] ρ) : Wpa [] ρ Q := ⟨_,_,rfl,q⟩
theorem Wpa.cons {f : FP} {fs : List FP} {Q : List Dp → Env → Prop} (h : Wp' f ρ fun p ρ1 => Wpa fs ρ1 fun ps ρ2 => Q (p :: ps) ρ2) : Wpa (f :: fs) ρ Q := by
 obtain ⟨x,ρ1,h1,xs,ρ2,h2,q⟩ := h
 exact ⟨_,_,by unfold pAs; rw [h1]; dsimp only; rw [h2],q⟩
theorem Wp'.T {fs : List FP} {Q : Dp → Env → Prop} (h : Wpa fs ρ fun ps ρ1 => ps.length ≤ SZ ∧ Q (.t ps) ρ1) : Wp' (pT fs) ρ Q := by
 obtain ⟨x,ρ1,h1,h2,q⟩ := h
 exact ⟨_,_,by unfold pT; rw [h1]; dsimp only; rw [if_pos h2],q⟩
end
def KM (N : Env → Dp → Prop) (R : Dat → Env → Prop) : OM → Prop
 | .nx ρ p => N ρ p
 | .rt d ρ => R d ρ
def Wc (g : FC) (ρ : Env) (p : Dp) (N : Env → Dp → Prop) (R : Dat → Env → Prop) : Prop := ∃ o,g ρ p = some o ∧ KM N R o
section
variable {N : Env → Dp → Prop} {R : Dat → Env → Prop} {ρ ρ' : Env} {p : Dp}
theorem Wm.seq {s : FC} {g : FM} {N : Env → Prop} {R : RV → Env → Prop} {B C : Env → Prop} (h : Wc s ρ p (fun ρ1 p1 => Wm g ρ1 p1 N R B C) (fun d ρ1 => R (.val d) ρ1)) : Wm (mSeq s g) ρ p N R B C := by
 obtain ⟨o,h1,h2⟩ := h
 cases o with
 | nx ρ1 p1 =>
  obtain ⟨o,h3,h4⟩ := h2
  exact ⟨o,by unfold mSeq; rw [h1]; exact h3,h4⟩
 | rt d ρ1 => exact ⟨.ret (.val d) ρ1,by unfold mSeq; rw [h1],h2⟩
theorem Wc.nx (h : N ρ p) : Wc cNx ρ p N R := ⟨_,rfl,h⟩
theorem Wc.seq {s u : FC} (h : Wc s ρ p (fun ρ1 p1 => Wc u ρ1 p1 N R) R) : Wc (cSeq s u) ρ p N R := by
 obtain ⟨o,h1,h2⟩ := h
 cases o with
 | nx ρ1 p1 =>
  obtain ⟨o,h3,h4⟩ := h2
  exact ⟨o,by unfold cSeq; rw [h1]; exact h3,h4⟩
 | rt d ρ1 => exact ⟨.rt d ρ1,by unfold cSeq; rw [h1],h2⟩
theorem Wc.If {j : Nat} {t : FT} {a b : FC} (h : Wt t ρ' fun c _ => Wif c (Wc a ρ p N R) (Wc b ρ p N R)) (e : see j ρ p = ρ') : Wc (cIf j t a b) ρ p N R := by
 obtain ⟨c,ρ1,h1,h2,h3⟩ := h
 cases c with
 | true =>
  obtain ⟨o,h4,h5⟩ := h2 rfl
  exact ⟨o,by unfold cIf; rw [e,h1]; exact h4,h5⟩
 | false =>
  obtain ⟨o,h4,h5⟩ := h3 rfl
  exact ⟨o,by unfold cIf; rw [e,h1]; exact h4,h5⟩
theorem Wc.Keep {j i : Nat} {f : FP} {q : Dp} {D : Dat} {ρ2 : Env} (h : Wp' f ρ' fun q' _ => q' = q) (k : N ρ2 p) (e : see j ρ p = ρ') (hb : leafOk q = true) (hd : q.dat = D) (hn : ρ.set i (.sh D) = ρ2) (hi : ¬ (i = 0 ∨ i = j)) : Wc (cKeep j i f) ρ p N R := by
 obtain ⟨v,ρ1,h1,rfl⟩ := h
 exact ⟨.nx ρ2 p,by unfold cKeep; rw [if_neg hi,e,h1]; dsimp only; rw [if_pos hb,hd,hn],k⟩
theorem Wc.inv {α : Type} (enc : α → Dat) (bd : FB) (body : FC) (xs : List α) (I : List α → List α → Env → Dp → Prop) (h0 : I [] xs ρ p)
  (hs : ∀ l x q ρ p,xs = l ++ x :: q → I l (x :: q) ρ p → ∃ ρ1,bd (enc x) ρ = some ρ1 ∧ Wc body ρ1 p (fun ρ2 p2 => I (l ++ [x]) q ρ2 p2) R) (he : ∀ ρ p,I xs [] ρ p → N ρ p) : Wc (cForD bd body (xs.map enc)) ρ p N R := by
 have go : ∀ (q l : List α) (ρ : Env) (p : Dp),xs = l ++ q → I l q ρ p → Wc (cForD bd body (q.map enc)) ρ p N R := fun q => by
  induction q with
  | nil => intro l ρ p e i; rw [List.append_nil] at e; exact ⟨.nx _ _,rfl,he ρ p (e ▸ i)⟩
  | cons x q ih =>
   intro l ρ p e i
   obtain ⟨ρ1,h1,o,h2,h3⟩ := hs l x q ρ p e i
   cases o with
   | nx ρ2 p2 =>
    obtain ⟨o,h4,h5⟩ := ih (l ++ [x]) ρ2 p2 (by rw [e]; simp) h3
    exact ⟨o,by rw [List.map_cons,cForD,h1]; dsimp only; rw [h2]; exact h4,h5⟩
   | rt d ρ2 => exact ⟨.rt d ρ2,by rw [List.map_cons,cForD,h1]; dsimp only; rw [h2],h3⟩
 exact go xs [] ρ p rfl h0
theorem Wc.For {it : FI} {bd : FB} {body : FC} {ds : List Dat} {ρ1 : Env} (hi : it ρ = some (ds,ρ1)) (h : Wc (cForD bd body ds) ρ1 p N R) : Wc (cFor it bd body) ρ p N R := by
 obtain ⟨o,h1,h2⟩ := h
 exact ⟨o,by unfold cFor; rw [hi]; exact h1,h2⟩
theorem pcompI {α : Type} (enc : α → Dat) (v : α → Dp) (bd : FB) (el : FP) (I : Env → Prop) : ∀ (xs : List α) (acc : List Dp) (ρ : Env),I ρ →
  (∀ x ∈ xs,∀ ρ,I ρ → ∃ ρ1,bd (enc x) ρ = some ρ1 ∧ Wp' el ρ1 fun q ρ2 => q = v x ∧ I ρ2) → ∃ ρ',pCompD bd el (xs.map enc) ρ acc = some (acc ++ xs.map v,ρ') ∧ I ρ'
 | [],acc,ρ,i,_ => ⟨ρ,by simp [pCompD],i⟩
 | x :: xs,acc,ρ,i,h => by
  obtain ⟨ρ1,h1,q,ρ2,h2,rfl,i2⟩ := h x List.mem_cons_self ρ i
  obtain ⟨ρ3,h3,i3⟩ := pcompI enc v bd el I xs (acc ++ [v x]) ρ2 i2 fun y hy => h y (List.mem_cons_of_mem _ hy)
  exact ⟨ρ3,by rw [List.map_cons,pCompD,h1]; dsimp only; rw [h2]; dsimp only; rw [h3]; simp,i3⟩
theorem Wp'.Comp {α : Type} (enc : α → Dat) (xs : List α) (v : α → Dp) (I : Env → Prop) {it : FI} {own : Nat} {bd : FB} {el : FP} {ρ ρ1 : Env} {Q : Dp → Env → Prop} (hit : it ρ = some (xs.map enc,ρ1)) (hl : xs.length ≤ SZ) (h0 : I (ρ1 ++ List.replicate own .un))
  (hs : ∀ x ∈ xs,∀ ρ,I ρ → ∃ ρ1,bd (enc x) ρ = some ρ1 ∧ Wp' el ρ1 fun q ρ2 => q = v x ∧ I ρ2) (q : ∀ ρ2,I ρ2 → Q (.l (xs.map v)) (ρ2.take ρ1.length)) : Wp' (pComp it own bd el) ρ Q := by
 obtain ⟨ρ2,h1,i⟩ := pcompI enc v bd el I xs [] _ h0 hs
 exact ⟨_,_,by unfold pComp; rw [hit]; dsimp only; rw [if_pos (by simpa using hl),h1]; rfl,q ρ2 i⟩
end
theorem noLs_int (i : Int) : noLs (.int i) = true := by unfold noLs; rfl
theorem leafOks_ints : ∀ ns : List Int,leafOks ((ns.map Dat.int).map Dp.s) = true
 | [] => by unfold leafOks; rfl
 | i :: r => by
  rw [List.map_cons,List.map_cons,leafOks,leafOks_ints r,leafOk,noLs_int]
  rfl
theorem We.FP {f : List Dat → Option Dp} {as : List FE} {ρ : Env} {Q : Val → Env → Prop} (h : Was as ρ fun xs ρ1 => ∃ ds ps,f ds = some (.l ps) ∧ Q (.new (.lst (Dp.dats ps))) ρ1 ∧ pks ρ1 xs = some ds ∧ leafOks ps = true) : We (eFP f as) ρ Q := by
 obtain ⟨xs,ρ1,h1,ds,ps,h2,q,h3,h4⟩ := h
 exact ⟨_,_,by unfold eFP; rw [h1]; dsimp only; rw [h3]; dsimp only; rw [h2]; dsimp only; rw [if_pos h4],q⟩
section
variable {N : Env → Prop} {R : RV → Env → Prop} {B C : Env → Prop} {ρ : Env} {p : Dp}
theorem Ws.DeepK {j : Nat} {f : List Dat → Option Dp} {as : List FE} {g : FM} (h : Was as ρ fun xs ρ1 => ∃ ds p ρ3,f ds = some p ∧ Wm g ρ3 p N R B C ∧ pks ρ1 xs = some ds ∧ leafOk p = true ∧ ρ1.set j .un = ρ3) (hj : j ≠ 0) : Ws (sDeepK j f as g) ρ N R B C := by
 obtain ⟨xs,ρ1,h1,ds,p,ρ3,h2,⟨o,h3,h4⟩,h5,h6,rfl⟩ := h
 exact ⟨o,by unfold sDeepK; rw [if_neg hj,h1]; dsimp only; rw [h5]; dsimp only; rw [h2]; dsimp only; rw [if_pos h6]; exact h3,h4⟩
theorem Wm.noM {j : Nat} {t : FT} {ga g : FM} {ρ' : Env} (h : Wt t ρ' fun c _ => c = false) (k : Wm g ρ p N R B C) (e : see j ρ p = ρ') : Wm (mIfM j t ga g) ρ p N R B C := by
 obtain ⟨c,ρ1,h1,rfl⟩ := h
 obtain ⟨o,h3,h4⟩ := k
 exact ⟨o,by unfold mIfM; rw [e,h1]; exact h3,h4⟩
theorem Wm.yesM {j : Nat} {t : FT} {ga g : FM} {ρ' : Env} (h : Wt t ρ' fun c _ => c = true) (k : Wm ga ρ p (fun _ => False) R B C) (e : see j ρ p = ρ') : Wm (mIfM j t ga g) ρ p N R B C := by
 obtain ⟨c,ρ1,h1,rfl⟩ := h
 obtain ⟨o,h3,h4⟩ := k
 cases o with
 | nx ρ2 => exact h4.elim
 | ret z ρ2 => exact ⟨.ret z ρ2,by unfold mIfM; rw [e,h1]; dsimp only; rw [h3],h4⟩
 | bk ρ2 => exact ⟨.bk ρ2,by unfold mIfM; rw [e,h1]; dsimp only; rw [h3],h4⟩
 | ct ρ2 => exact ⟨.ct ρ2,by unfold mIfM; rw [e,h1]; dsimp only; rw [h3],h4⟩
end
section
variable {N : Env → Dp → Prop} {R : Dat → Env → Prop} {ρ ρ' : Env} {p : Dp}
theorem Wc.App2 {j : Nat} {c : Int} {i f : FE} {xs rows rows' : List Dp} {m0 : Nat} {k : Int} {d : Dat} (h1 : We i ρ' fun v _ => v = .val (.int k)) (h2 : We f ρ' fun v _ => v = .val d) (q : N ρ (.t (xs.set m0 (.l rows')))) (e : see j ρ (.t xs) = ρ') (h3 : ixN xs.length c = some m0) (h4 : xs[m0]? = some (.l rows)) (hb : isBox d = false) (hr : rowApp rows k d = some rows') : Wc (cApp2 j c i f) ρ (.t xs) N R := by
 obtain ⟨v,ρ1,h1,rfl⟩ := h1
 obtain ⟨w,ρ2,h2,rfl⟩ := h2
 exact ⟨.nx ρ (.t (xs.set m0 (.l rows'))),by unfold cApp2; dsimp only; rw [h3]; dsimp only; rw [h4]; dsimp only; rw [e,h1]; dsimp only; rw [h2]; dsimp only; rw [hb,hr]; rfl,q⟩
end
section
variable {ρ : Env} {P : Dp → Prop} {Q : Dp → Env → Prop}
theorem Wq.ifNo {t : FT} {e : FE} {g : FSP} (h : Wt t ρ fun c ρ1 => c = false ∧ Wq g ρ1 P) : Wq (qIfR t e g) ρ P := by
 obtain ⟨c,ρ1,h1,rfl,p,h2,h3⟩ := h
 exact ⟨p,by unfold qIfR; rw [h1]; exact h2,h3⟩
theorem Wq.ifYes {t : FT} {e : FE} {g : FSP} {d : Dat} (h : Wt t ρ fun c ρ1 => c = true ∧ We e ρ1 fun v _ => v = .val d) (k : P (.s d)) : Wq (qIfR t e g) ρ P := by
 obtain ⟨c,ρ1,h1,rfl,v,ρ2,h2,rfl⟩ := h
 exact ⟨.s d,by unfold qIfR; rw [h1]; dsimp only; rw [h2],k⟩
theorem Wp'.slot {f : FE} {i : Nat} {ds : List Dat} (h : We f ρ fun v ρ1 => v = .slot i ∧ ρ1[i]? = some (.ow (.lst ds)) ∧ Q (.l (ds.map .s)) (ρ1.set i .un)) : Wp' (pO f) ρ Q := by
 obtain ⟨v,ρ1,h1,rfl,h2,h3⟩ := h
 exact ⟨_,_,by unfold pO; rw [h1]; dsimp only; rw [h2],h3⟩
theorem Wp'.Call {f : List Dat → Option Dp} {as : List FE} (h : Was as ρ fun xs ρ1 => ∃ ds p ρ2,f ds = some p ∧ Q p ρ2 ∧ tks ρ1 xs = some (ds,ρ2)) : Wp' (pCall f as) ρ Q := by
 obtain ⟨xs,ρ1,h1,ds,p,ρ2,h2,q,h3⟩ := h
 exact ⟨_,_,by unfold pCall; rw [h1]; dsimp only; rw [h3]; dsimp only; rw [h2],q⟩
theorem Wp'.Ix {f : FP} {z : Int} {xs : List Dp} {m : Nat} {x : Dp} (h : Wp' f ρ fun p ρ1 => p = .t xs ∧ Q x ρ1) (h1 : ixN xs.length z = some m) (h2 : xs[m]? = some x) : Wp' (pIx f z) ρ Q := by
 obtain ⟨p,ρ1,h3,rfl,q⟩ := h
 exact ⟨_,_,by unfold pIx; rw [h3]; dsimp only; rw [h1]; dsimp only; rw [h2],q⟩
end
end Dm
namespace Fl
structure Tie where
 m : Int
 a : Int
 b : Int
deriving Inhabited
def one (b : Bool) : Int := if b then 1 else 0
def Ends (t : Tie) (p q : Int) : Prop := t.a ≠ t.b ∧ ((t.a = p ∧ t.b = q) ∨ (t.b = p ∧ t.a = q))
theorem uniq {r : List Tie} (nd : (r.map (·.m)).Nodup) {u t : Tie} (hu : u ∈ r) (ht : t ∈ r) (e : u.m = t.m) : u = t := by
 induction r with
 | nil => cases hu
 | cons v r ih =>
  rw [List.map_cons,List.nodup_cons] at nd
  rcases List.mem_cons.mp hu with rfl | h1
  ·rcases List.mem_cons.mp ht with rfl | h2
   ·rfl
   ·exact absurd (List.mem_map.mpr ⟨t,h2,e.symm⟩) nd.1
  ·rcases List.mem_cons.mp ht with rfl | h2
   ·exact absurd (List.mem_map.mpr ⟨u,h1,e⟩) nd.1
   ·exact ih nd.2 h1 h2
abbrev Step := Int × Int
def Way (R : Int → Step → Prop) : Int → List Step → Int → Prop
 | x,[],y => x = y
 | x,s :: w,y => R x s ∧ Way R s.2 w y
theorem Way.snoc {R : Int → Step → Prop} : ∀ {w : List Step} {x y : Int} {s : Step},Way R x w y → R y s → Way R x (w ++ [s]) s.2
 | [],_,_,_,h,k => by cases h; exact ⟨k,rfl⟩
 | _ :: _,_,_,_,h,k => ⟨h.1,Way.snoc h.2 k⟩
theorem Way.mono {R R' : Int → Step → Prop} (h : ∀ p s,R p s → R' p s) : ∀ {w : List Step} {x y : Int},Way R x w y → Way R' x w y
 | [],_,_,k => k
 | _ :: _,_,_,k => ⟨h _ _ k.1,Way.mono h k.2⟩
def Along (r : List Tie) (p : Int) (s : Step) : Prop := ∃ t ∈ r,t.m = s.1 ∧ Ends t p s.2
theorem way_fresh {r : List Tie} (nd : (r.map (·.m)).Nodup) {R : Int → Step → Prop} (hR : ∀ p s,R p s → Along r p s) {x y : Int} {s : Step} {w : List Step} (h : Way R x (s :: w) y) (hn : (x :: (s :: w).map (·.2)).Nodup) : ∀ u ∈ w,u.1 ≠ s.1 := by
 obtain ⟨h1,h2⟩ := h
 obtain ⟨t,ht,hm,he⟩ := hR _ _ h1
 have main : ∀ (w : List Step) (z : Int),Way R z w y → (∀ u ∈ w,u.2 ≠ x ∧ u.2 ≠ s.2) → ∀ u ∈ w,u.1 ≠ s.1 := fun w => by
  induction w with
  | nil => intro z _ _ u hu; cases hu
  | cons v w ih =>
   intro z hw hd u hu
   rcases List.mem_cons.mp hu with rfl | hu
   ·intro e
    obtain ⟨t',ht',hm',he'⟩ := hR _ _ hw.1
    have := uniq nd ht' ht (by rw [hm',e,hm])
    subst this
    obtain ⟨d1,d2⟩ := hd u List.mem_cons_self
    obtain ⟨_,he⟩ := he
    obtain ⟨_,he'⟩ := he'
    omega
   ·exact ih v.2 hw.2 (fun u hu => hd u (List.mem_cons_of_mem _ hu)) u hu
 rw [List.map_cons,List.nodup_cons,List.nodup_cons] at hn
 refine main w s.2 h2 fun u hu => ⟨fun e => hn.1 ?_,fun e => hn.2.1 ?_⟩
 ·exact List.mem_cons_of_mem _ (List.mem_map.mpr ⟨u,hu,e⟩)
 ·exact List.mem_map.mpr ⟨u,hu,e⟩
theorem way_moments {r : List Tie} (nd : (r.map (·.m)).Nodup) {R : Int → Step → Prop} (hR : ∀ p s,R p s → Along r p s) {y : Int} : ∀ {w : List Step} {x : Int},Way R x w y → (x :: w.map (·.2)).Nodup → (w.map (·.1)).Nodup
 | [],_,_,_ => by simp
 | s :: w,x,h,hn => by
  rw [List.map_cons,List.nodup_cons]
  refine ⟨fun e => ?_,way_moments nd hR h.2 (by rw [List.map_cons,List.nodup_cons] at hn; exact hn.2)⟩
  obtain ⟨u,hu,e⟩ := List.mem_map.mp e
  exact way_fresh nd hR h hn u hu e
def sm (F : Nat → Int) : Nat → Int
 | 0 => 0
 | n + 1 => sm F n + F n
theorem sm_congr {F G : Nat → Int} : ∀ {n : Nat},(∀ i < n,F i = G i) → sm F n = sm G n
 | 0,_ => rfl
 | n + 1,h => by rw [sm,sm,sm_congr fun i hi => h i (Nat.lt_succ_of_lt hi),h n (Nat.lt_succ_self n)]
theorem sm_le {F G : Nat → Int} : ∀ {n : Nat},(∀ i < n,F i ≤ G i) → sm F n ≤ sm G n
 | 0,_ => Int.le_refl _
 | n + 1,h => by
  have h1 := sm_le (n := n) fun i hi => h i (Nat.lt_succ_of_lt hi)
  have h2 := h n (Nat.lt_succ_self n)
  rw [sm,sm]; omega
theorem sm_at {F : Nat → Int} {k : Nat} {d : Int} : ∀ {n : Nat},k < n → sm (fun i => if i = k then F i + d else F i) n = sm F n + d
 | 0,h => absurd h (Nat.not_lt_zero _)
 | n + 1,h => by
  rw [sm,sm]
  by_cases e : n = k
  ·subst e
   rw [if_pos rfl,sm_congr (G := F) fun i hi => if_neg (by omega)]
   omega
  ·rw [if_neg e,sm_at (by omega)]
   omega
structure Web where
 N : Nat
 a : Nat → Int
 b : Nat → Int
 w : Nat → Int
def Web.out (W : Web) (f : Nat → Int) (S : Int → Bool) : Int := sm (fun i => f i * (one (S (W.a i)) - one (S (W.b i)))) W.N
def Web.cut (W : Web) (S : Int → Bool) : Int := sm (fun i => if S (W.a i) != S (W.b i) then W.w i else 0) W.N
def Web.Fits (W : Web) (f : Nat → Int) : Prop := ∀ i < W.N,-W.w i ≤ f i ∧ f i ≤ W.w i
theorem Web.out_le {W : Web} {f : Nat → Int} (h : W.Fits f) (S : Int → Bool) : W.out f S ≤ W.cut S := by
 refine sm_le fun i hi => ?_
 have := h i hi
 cases S (W.a i) <;> cases S (W.b i) <;> simp [one] <;> omega
theorem Web.out_eq {W : Web} {f : Nat → Int} {S : Int → Bool} (h1 : ∀ i < W.N,S (W.a i) = true → S (W.b i) = false → f i = W.w i) (h2 : ∀ i < W.N,S (W.b i) = true → S (W.a i) = false → f i = -W.w i) : W.out f S = W.cut S := by
 refine sm_congr fun i hi => ?_
 have h1 := h1 i hi
 have h2 := h2 i hi
 cases ha : S (W.a i) <;> cases hb : S (W.b i) <;> simp [one]
 ·rw [h2 hb ha]; omega
 ·exact h1 ha hb
theorem Web.cut_not (W : Web) (S : Int → Bool) : W.cut (fun x => !S x) = W.cut S := by
 refine sm_congr fun i _ => ?_
 have e : ∀ x y : Bool,((!x) != (!y)) = (x != y) := by decide
 simp only [e]
def sgn (m : Int) : Int := if m % 2 = 0 then 1 else -1
def push1 (f : Nat → Int) (m d : Int) : Nat → Int := fun i => if (i : Int) = m / 2 then f i + sgn m * d else f i
def pushW (f : Nat → Int) (d : Int) : List Step → Nat → Int
 | [] => f
 | s :: w => pushW (push1 f s.1 d) d w
def Web.Leads (W : Web) (p : Int) (s : Step) : Prop := 0 ≤ s.1 ∧ s.1 / 2 < W.N ∧ (if s.1 % 2 = 0 then W.a (s.1 / 2).toNat = p ∧ W.b (s.1 / 2).toNat = s.2 else W.b (s.1 / 2).toNat = p ∧ W.a (s.1 / 2).toNat = s.2)
theorem Web.out_push1 {W : Web} {f : Nat → Int} {p d : Int} {s : Step} (h : W.Leads p s) (S : Int → Bool) : W.out (push1 f s.1 d) S = W.out f S + d * (one (S p) - one (S s.2)) := by
 obtain ⟨h0,h1,h2⟩ := h
 have e : ∀ i : Nat,((i : Int) = s.1 / 2) ↔ i = (s.1 / 2).toNat := fun i => by omega
 have : W.out (push1 f s.1 d) S = sm (fun i => if i = (s.1 / 2).toNat then f i * (one (S (W.a i)) - one (S (W.b i))) + sgn s.1 * d * (one (S (W.a (s.1 / 2).toNat)) - one (S (W.b (s.1 / 2).toNat))) else f i * (one (S (W.a i)) - one (S (W.b i)))) W.N := by
  refine sm_congr fun i _ => ?_
  unfold push1
  by_cases q : (i : Int) = s.1 / 2
  ·have q' := (e i).mp q
   rw [if_pos q,if_pos q',← q',Int.add_mul]
  ·rw [if_neg q,if_neg fun z => q ((e i).mpr z)]
 rw [this,sm_at (by omega)]
 unfold Web.out sgn
 congr 1
 split at h2
 ·rename_i hm
  rw [if_pos hm,h2.1,h2.2,Int.one_mul]
 ·rename_i hm
  rw [if_neg hm,h2.1,h2.2]
  rw [Int.neg_mul,Int.one_mul,Int.neg_mul,← Int.mul_neg]
  congr 1
  omega
theorem Web.out_push {W : Web} {d : Int} (S : Int → Bool) : ∀ {w : List Step} {x y : Int} {f : Nat → Int},Way W.Leads x w y → W.out (pushW f d w) S = W.out f S + d * (one (S x) - one (S y))
 | [],x,y,f,h => by
  cases h
  rw [pushW]
  simp
 | s :: w,x,y,f,h => by
  rw [pushW,Web.out_push S h.2,Web.out_push1 h.1 S,Int.mul_sub,Int.mul_sub,Int.mul_sub]
  omega
theorem Web.fits_push {W : Web} {d : Int} (d0 : 0 ≤ d) : ∀ {w : List Step} {f : Nat → Int},W.Fits f → (w.map fun s => s.1 / 2).Nodup → (∀ s ∈ w,∀ i : Nat,(i : Int) = s.1 / 2 → d ≤ W.w i - sgn s.1 * f i) → W.Fits (pushW f d w)
 | [],_,h,_,_ => h
 | s :: w,f,h,nd,hr => by
  rw [pushW]
  rw [List.map_cons,List.nodup_cons] at nd
  refine Web.fits_push d0 (fun i hi => ?_) nd.2 fun u hu i hi => ?_
  ·unfold push1
   have hf := h i hi
   split
   ·rename_i e
    have := hr s List.mem_cons_self i e
    unfold sgn at this ⊢
    split at this <;> rename_i hm
    ·rw [if_pos hm]; omega
    ·rw [if_neg hm]; omega
   ·exact hf
  ·have := hr u (List.mem_cons_of_mem _ hu) i hi
   unfold push1
   rw [if_neg fun z => nd.1 (List.mem_map.mpr ⟨u,hu,hi.symm.trans z⟩)]
   exact this
structure Web.Flow (W : Web) (f : Nat → Int) (a b T : Int) : Prop where
 fits : W.Fits f
 out : ∀ S : Int → Bool,W.out f S = T * (one (S a) - one (S b))
theorem Web.Flow.le {W : Web} {f : Nat → Int} {a b T : Int} (F : W.Flow f a b T) {S : Int → Bool} (ha : S a = true) (hb : S b = false) : T ≤ W.cut S := by
 have h1 := F.out S
 have h2 := Web.out_le F.fits S
 rw [ha,hb] at h1
 simp [one] at h1
 omega
theorem Web.Flow.more {W : Web} {f : Nat → Int} {a b T d : Int} (F : W.Flow f a b T) (d0 : 0 ≤ d) {w : List Step} (hw : Way W.Leads a w b) (nd : (w.map fun s => s.1 / 2).Nodup) (hr : ∀ s ∈ w,∀ i : Nat,(i : Int) = s.1 / 2 → d ≤ W.w i - sgn s.1 * f i) : W.Flow (pushW f d w) a b (T + d) :=
 ⟨Web.fits_push d0 F.fits nd hr,fun S => by rw [Web.out_push S hw,F.out S,Int.add_mul]⟩
theorem Web.Flow.zero (W : Web) (h : ∀ i < W.N,0 ≤ W.w i) (a b : Int) : W.Flow (fun _ => 0) a b 0 :=
 ⟨fun i hi => by have := h i hi; omega,fun S => by
  rw [Int.zero_mul]
  unfold Web.out
  have : ∀ n,sm (fun i => (0 : Int) * (one (S (W.a i)) - one (S (W.b i)))) n = 0 := fun n => by
   induction n with
   | zero => rfl
   | succ n ih => rw [sm,ih]; simp
  exact this _⟩
theorem Web.Flow.stop {W : Web} {f : Nat → Int} {a b T : Int} (F : W.Flow f a b T) {S : Int → Bool} (ha : S a = true) (hb : S b = false)
  (hc : ∀ p s,S p = true → W.Leads p s → (∀ i : Nat,(i : Int) = s.1 / 2 → 0 < W.w i - sgn s.1 * f i) → S s.2 = true) : W.cut S = T := by
 have h1 := F.out S
 rw [ha,hb] at h1
 simp [one] at h1
 rw [← h1]
 refine (Web.out_eq (fun i hi p q => ?_) fun i hi p q => ?_).symm
 ·have hf := F.fits i hi
  by_cases z : f i = W.w i
  ·exact z
  ·have e1 : (2 * (i : Int)) / 2 = i := by omega
   have e2 : (2 * (i : Int)) % 2 = 0 := by omega
   have := hc _ (2 * (i : Int),W.b i) p ⟨by omega,by dsimp only; rw [e1]; omega,by dsimp only; rw [if_pos e2,e1,Int.toNat_natCast]; exact ⟨rfl,rfl⟩⟩ fun j hj => by
    dsimp only at hj ⊢
    rw [e1] at hj
    have : j = i := by omega
    subst this
    unfold sgn
    rw [if_pos e2]
    omega
   rw [q] at this
   cases this
 ·have hf := F.fits i hi
  by_cases z : f i = -W.w i
  ·exact z
  ·have e1 : (2 * (i : Int) + 1) / 2 = i := by omega
   have e2 : ¬ (2 * (i : Int) + 1) % 2 = 0 := by omega
   have := hc _ (2 * (i : Int) + 1,W.a i) p ⟨by omega,by dsimp only; rw [e1]; omega,by dsimp only; rw [if_neg e2,e1,Int.toNat_natCast]; exact ⟨rfl,rfl⟩⟩ fun j hj => by
    dsimp only at hj ⊢
    rw [e1] at hj
    have : j = i := by omega
    subst this
    unfold sgn
    rw [if_neg e2]
    omega
   rw [q] at this
   cases this
end Fl
local macro_rules | `(tactic| array_get_dec) => `(tactic| first | with_reducible refine Dm.Ws.seq ?_ | with_reducible refine Dm.We.e2 ?_ | ((with_reducible apply Dm.We.v); (focus rfl)) | ((with_reducible apply Dm.We.w); (focus rfl)) | with_reducible refine Dm.We.c ?_ | (refine Dm.WA.val ?_ (by first | (dsimp only [List.set]; first | done | rfl) | rfl)) | (refine Dm.WA.new ?_ (by first | (dsimp only [List.set]; first | done | rfl) | rfl)) | (refine Dm.WA.slot ?_ rfl (by first | (dsimp only [List.set]; first | done | rfl) | rfl)) | with_reducible refine Dm.Ws.A ?_ (by decide) | with_reducible refine Dm.Ws.If ?_ | with_reducible refine Dm.Wt.V ?_ | with_reducible refine Dm.Wt.Not ?_ | with_reducible refine Dm.Wt.And ?_ | with_reducible refine Dm.Wt.Or ?_ | with_reducible refine Dm.Wt.T ?_ | (refine Dm.Wb.mk ?_) | (refine Dm.Wint.mk ?_) | with_reducible refine Dm.Wif.t ?_ | with_reducible refine Dm.Wif.f ?_ | with_reducible refine Dm.Was.nil ?_ | with_reducible refine Dm.Was.cons ?_ | with_reducible refine Dm.We.B ?_ | with_reducible refine Dm.We.F ?_ | with_reducible refine Dm.We.T ?_ | with_reducible refine Dm.We.L ?_ | with_reducible refine Dm.We.e1 ?_ | with_reducible refine Dm.We.If ?_ | with_reducible refine Dm.We.And ?_ | with_reducible refine Dm.We.Or ?_ | with_reducible refine Dm.We.Not ?_ | with_reducible refine Dm.We.Sl ?_ | with_reducible refine Dm.We.SlT ?_ | with_reducible refine Dm.Wp.none ?_ | with_reducible refine Dm.Wp.some ?_ | (refine Dm.Wsl.A (enc := Dm.Dat.int) ?_ rfl) | (refine Dm.Wsl.mk ?_ rfl) | (refine Dm.WT.mk ?_ rfl (by first | (dsimp only [List.set]; first | done | rfl) | rfl) (by exact Nat.le_of_ble_eq_true rfl)) | (refine Dm.Wk.val ?_) | (refine Dm.Wk.new ?_) | (refine Dm.Wk.slot ?_ rfl (by first | (dsimp only [List.set]; first | done | rfl) | rfl)) | with_reducible refine Dm.We.Dn ?_ | with_reducible refine Dm.We.D1 ?_ | with_reducible refine Dm.Ws.Dput ?_ | (refine Dm.slT3 ?_ rfl) | (refine Dm.own_go rfl ?_) | (refine Dm.dput_go ?_ rfl (by first | (dsimp only [List.set]; first | done | rfl) | rfl) ?_) | (refine Dm.Ws.App ?_ rfl) | (refine Dm.app_go ?_ rfl (by first | (dsimp only [List.set]; first | done | rfl) | rfl) ?_) | with_reducible refine Dm.Ws.U ?_ | (refine Dm.tup_go ?_ rfl (by first | (dsimp only [List.set]; first | done | rfl) | rfl)) | with_reducible refine Dm.Ws.R ?_ | (refine Dm.WR.new ?_) | (refine Dm.WR.val ?_) | (refine Dm.WR.slot ?_ rfl) | with_reducible refine Dm.Ws.nx ?_ | with_reducible refine Dm.Ws.bk ?_ | with_reducible refine Dm.Ws.ct ?_ | with_reducible refine Dm.Ws.E ?_ | with_reducible refine Dm.Ws.For ?_ | with_reducible refine Dm.Wi.S ?_ | with_reducible refine Dm.Wi.L ?_ | with_reducible refine Dm.Wi.R1 ?_ | with_reducible refine Dm.Wi.R2 ?_ | (refine Dm.seqL_go ?_) | (refine Dm.seqT_go ?_) | (refine Dm.Wg2.eq ?_ rfl rfl) | (refine Dm.Wg2.ne ?_ rfl rfl) | (refine Dm.Wg2.eqnil ?_ rfl rfl ?_) | (refine Dm.Wg2.nenil ?_ rfl rfl ?_) | (refine Dm.Wg2.eqb ?_ rfl rfl) | (refine Dm.Wg2.neb ?_ rfl rfl) | (refine Dm.Wg2.isnotb ?_ rfl rfl) | (refine Dm.Wg2.isb ?_ rfl rfl) | (refine Dm.Wg2.lt ?_ rfl rfl) | (refine Dm.Wg2.le ?_ rfl rfl) | (refine Dm.Wg2.gt ?_ rfl rfl) | (refine Dm.Wg2.ge ?_ rfl rfl) | (refine Dm.Wg2.add ?_ rfl rfl) | (refine Dm.Wg2.addI ?_ rfl rfl ?_) | (refine Dm.Wg2.addI1 ?_ rfl rfl ?_) | (refine Dm.Wg2.addL ?_ rfl rfl ?_) | (refine Dm.Wg2.sub ?_ rfl rfl) | (refine Dm.Wg2.mul ?_ rfl rfl (by first | exact Or.inl (by decide) | exact Or.inr (by decide))) | (refine Dm.Wg2.mul ?_ rfl rfl ?_) | (refine Dm.Wg2.div ?_ rfl rfl (by decide)) | (refine Dm.Wg2.div ?_ rfl rfl ?_) | (refine Dm.Wg2.mod ?_ rfl rfl (by decide)) | (refine Dm.Wg2.mod ?_ rfl rfl ?_) | (refine Dm.Wg2.din ?_ rfl rfl) | (refine Dm.Wg2.dnin ?_ rfl rfl) | (refine Dm.Wg2.inP ?_ rfl rfl) | (refine Dm.Wg2.ninP ?_ rfl rfl) | (refine Dm.Wg2.ix ?_ rfl rfl rfl) | (refine Dm.WB.lenI (enc := Dm.Dat.int) ?_ rfl) | (refine Dm.WB.len ?_ rfl) | (refine Dm.WB.lenT ?_ rfl) | (refine Dm.WB.min2 ?_ rfl) | (refine Dm.WB.max2 ?_ rfl) | (refine Dm.WB.list ?_ rfl) | (refine Dm.WB.int ?_ rfl) | (refine Dm.WB.sum2 ?_ rfl ?_) | (refine Dm.Wg1.revI (enc := Dm.Dat.int) ?_ rfl) | (refine Dm.Wg1.mk ?_ rfl rfl))
namespace P
structure Hv where
 a : Int
 b : Int
 w : Int
def wsum (p : Hv → Bool) : List Hv → Int
 | [] => 0
 | t :: h => (if p t then t.w else 0) + wsum p h
theorem wsum_congr {p q : Hv → Bool} : ∀ {h : List Hv},(∀ t ∈ h,p t = q t) → wsum p h = wsum q h
 | [],_ => rfl
 | t :: h,e => by rw [wsum,wsum,e t List.mem_cons_self,wsum_congr fun u hu => e u (List.mem_cons_of_mem _ hu)]
theorem wsum_nn {p : Hv → Bool} : ∀ {h : List Hv},(∀ t ∈ h,0 ≤ t.w) → 0 ≤ wsum p h
 | [],_ => Int.le_refl _
 | t :: h,e => by
  have ih := wsum_nn (p := p) fun u hu => e u (List.mem_cons_of_mem _ hu)
  have := e t List.mem_cons_self
  rw [wsum]; split <;> omega
instance : Inhabited Hv := ⟨⟨0,0,0⟩⟩
section
variable {N : Int} {q : Nat → Bool} {w : Nat → Int}
end
def gT (h : List Hv) (i : Nat) : Hv := h.getD i default
def wI (h : List Hv) (i : Nat) : Int := (gT h i).w
theorem gT_mem {h : List Hv} {i : Nat} (hi : i < h.length) : gT h i ∈ h := by
 unfold gT
 rw [List.getD_eq_getElem?_getD,List.getElem?_eq_getElem hi]
 exact List.getElem_mem hi
open Dm
def b0_z0 : FS :=
  (sIf (tV (e2 gDnin (e2 gIx (eV 5) (eC (.int 1))) (eV 2))) (sSeq (sDput 2 (e2 gIx (eV 5) (eC (.int 1))) (e2 gAdd (e2 gDx (eV 2) (eV 4)) (eLst [(eV 5)])))
  (sApp 3 (e2 gIx (eV 5) (eC (.int 1))))) sNx)
def b1_z0 : FS :=
  (sSeq (sA 4 (ePopAt 3 (eC (.int 0))))
  (sFor (iS (e2 gIx (eV 0) (eV 4))) (bN 5)
  b0_z0))
def f_z0 : List Dat → Option RV := fn 2 4
  (sSeq (sA 2 (eD1 (eV 1) (eLst [])))
  (sSeq (sA 3 (eLst [(eV 1)]))
  (sSeq (whD (tTr (eV 3))
  b1_z0 100)
  (sR (eV 2)))))
def f_z1 : List Dat → Option RV := fn 1 0
  (sR (eAnd (e1 (gIsi isI) (eV 0)) (eNot (e1 (gIsi isB) (eV 0)))))
def f_z2 : List Dat → Option RV := fn 3 0
  (sR (eAnd (eF f_z1 [(eV 0)]) (eChain gLe gLe (eV 1) (eV 0) (eV 2))))
def f_z3 : List Dat → Option RV := fn 1 0
  (sR (eF f_z2 [(eV 0),(eC (.int 1)),(eC (.int 10))]))
def f_z4 : List Dat → Option RV := fn 2 0
  (sR (eF f_z2 [(eV 1),(eC (.int 0)),(e2 gSub (eV 0) (eC (.int 1)))]))
def f_z5 : List Dat → Option RV := fn 3 0
  (sR (eAnd (eF f_z4 [(eV 0),(eV 1)]) (eAnd (eF f_z4 [(eV 0),(eV 2)]) (e2 gNe (eV 1) (eV 2)))))
def f_z6 : List Dat → Option RV := fn 2 0
  (sSeq (sIf (tOr (tNot (tV (e1 (gIsi isT) (eV 1)))) (tV (e2 gNe (eB gLen [(eV 1)]) (eC (.int 3))))) (sR (eC (.bl false))) sNx)
  (sR (eAnd (eF f_z5 [(eV 0),(e2 gIx (eV 1) (eC (.int 0))),(e2 gIx (eV 1) (eC (.int 1)))]) (eAnd (e2 gLt (e2 gIx (eV 1) (eC (.int 0))) (e2 gIx (eV 1) (eC (.int 1)))) (eF f_z2 [(e2 gIx (eV 1) (eC (.int 2))),(eC (.int 1)),(e2 gPow (eC (.int 10)) (eC (.int 30)))])))))
def f_z7 : List Dat → Option RV := fn 1 0
  (sIf (tNot (tV (eF f_z3 [(eV 0)]))) (fun _ => none) sNx)
def f_z8 : List Dat → Option RV := fn 2 0
  (sSeq (sE (eF f_z7 [(eV 0)]))
  (sSeq (sIf (tOr (tNot (tV (e1 (gIsi isL) (eV 1)))) (tV (e2 gGt (eB gLen [(eV 1)]) (eC (.int 40))))) (fun _ => none) sNx)
  (sIf (tNot (tV (eB gAll [(eCompM 1 1 (bN 2) tTrue (eF f_z6 [(eV 0),(eV 2)]))]))) (fun _ => none) sNx)))
def f_z9 : List Dat → Option RV := fn 2 0
  (sR (eB gSumL [(eCompM 0 3 (bT [2,3,4]) (tV (e2 gNe (e2 gIn (eV 2) (eV 1)) (e2 gIn (eV 3) (eV 1)))) (eV 4))]))
def f_z10 : List Dat → Option RV := fn 3 0
  (sR (e2 gSub (e2 gIx (e2 gIx (eV 0) (e2 gIx (eV 2) (eC (.int 0)))) (eC (.int 2))) (e2 gMul (e2 gIx (eV 2) (eC (.int 1))) (e2 gIx (eV 1) (e2 gIx (eV 2) (eC (.int 0)))))))
def b0_z11 : FN :=
  (nSeq (nIf (tV (e2 gGt (eF f_z10 [(eV 1),(eV 2),(eTup [(eV 4),(eC (.int 1))])]) (eC (.int 0)))) (nApp (e2 gIx (eV 5) (eC (.int 0))) (eTup [(eTup [(eV 4),(eC (.int 1))]),(e2 gIx (eV 5) (eC (.int 1)))])) nNx)
  (nIf (tV (e2 gGt (eF f_z10 [(eV 1),(eV 2),(eTup [(eV 4),(e1 gNeg (eC (.int 1)))])]) (eC (.int 0)))) (nApp (e2 gIx (eV 5) (eC (.int 1))) (eTup [(eTup [(eV 4),(e1 gNeg (eC (.int 1)))]),(e2 gIx (eV 5) (eC (.int 0)))])) nNx))
def f_z11 : List Dat → Option RV := fn 3 3
  (sSeq (sNest 3 (iR1 (eV 0)) 1 (bN 6) (nFor (iEn (eV 1)) (bT [4,5])
  b0_z11))
  (sR (eV 3)))
def fP_open_steps : List Dat → Option Dp := fnP 3 3
  (qNest 3 (iR1 (eV 0)) 1 (bN 6) (nFor (iEn (eV 1)) (bT [4,5])
  b0_z11))
def b0_z12 : FS :=
  (sSet 4 (eV 9) (e2 gAdd (e2 gIx (eV 4) (eV 9)) (e2 gMul (eV 10) (eV 8))))
def b1_z12 : FS :=
  (sSeq (sA 7 (eComp (iS (e2 gDx (eV 6) (eV 2))) 1 (bN 11) tTrue (e2 gIx (eV 11) (eC (.int 0)))))
  (sSeq (sA 8 (eB gMinL [(e2 gAdd (eCompM 7 1 (bN 11) tTrue (eF f_z10 [(eV 1),(eV 4),(eV 11)])) (eLst [(e2 gSub (eV 3) (eV 5))]))]))
  (sSeq (sFor (iS (eV 7)) (bT [9,10])
  b0_z12)
  (sSeq (sA 5 (e2 gAdd (eV 5) (eV 8)))
  (sA 6 (eF f_z0 [(eFP fP_open_steps [(eV 0),(eV 1),(eV 4)]),(eC (.int 0))]))))))
def f_z12 : List Dat → Option RV := fn 4 7
  (sSeq (sA 4 (eCompM 1 1 (bN 11) tTrue (eC (.int 0))))
  (sSeq (sA 5 (eC (.int 0)))
  (sSeq (sA 6 (eF f_z0 [(eFP fP_open_steps [(eV 0),(eV 1),(eV 4)]),(eC (.int 0))]))
  (sSeq (whD (tAnd (tV (e2 gLt (eV 5) (eV 3))) (tV (e2 gDin (eV 2) (eV 6))))
  b1_z12 10000000000000000000000000000000000000000)
  (sR (eTup [(eV 5),(eV 4),(eB gTuple [(eComp (iR1 (eV 0)) 1 (bN 11) (tV (e2 gDnin (eV 11) (eV 6))) (eV 11))])]))))))
def fP_flow_to : List Dat → Option Dp := fnP 4 7
  (qSeq (sA 4 (eCompM 1 1 (bN 11) tTrue (eC (.int 0))))
  (qSeq (sA 5 (eC (.int 0)))
  (qSeq (sA 6 (eF f_z0 [(eFP fP_open_steps [(eV 0),(eV 1),(eV 4)]),(eC (.int 0))]))
  (qSeq (whD (tAnd (tV (e2 gLt (eV 5) (eV 3))) (tV (e2 gDin (eV 2) (eV 6))))
  b1_z12 10000000000000000000000000000000000000000)
  (qR (pT [(pO (eV 5)),(pO (eV 4)),(pO (eB gTuple [(eComp (iR1 (eV 0)) 1 (bN 11) (tV (e2 gDnin (eV 11) (eV 6))) (eV 11))]))]))))))
def b0_z13 : FS :=
  (sSeq (sA 5 (eF f_z12 [(eV 0),(eV 1),(eV 4),(eV 3)]))
  (sIf (tV (e2 gLt (e2 gIx (eV 5) (eC (.int 0))) (eV 3))) (sSeq (sA 3 (e2 gIx (eV 5) (eC (.int 0))))
  (sA 2 (e2 gIx (eV 5) (eC (.int 2))))) sNx))
def f_z13 : List Dat → Option RV := fn 2 4
  (sSeq (sE (eF f_z8 [(eV 0),(eV 1)]))
  (sSeq (sIf (tV (e2 gEq (eV 0) (eC (.int 1)))) (sR (eC .non)) sNx)
  (sSeq (sA 2 (eB gTuR2 [(eC (.int 1)),(eV 0)]))
  (sSeq (sA 3 (eF f_z9 [(eV 1),(eV 2)]))
  (sSeq (sFor (iR2 (eC (.int 1)) (eV 0)) (bN 4)
  b0_z13)
  (sR (eTup [(eV 3),(eV 2),(eComp (iR2 (eC (.int 1)) (eV 0)) 1 (bN 6) tTrue (e2 gIx (eF f_z12 [(eV 0),(eV 1),(eV 6),(eV 3)]) (eC (.int 1))))])))))))
def fP_lightest : List Dat → Option Dp := fnP 2 4
  (qSeq (sE (eF f_z8 [(eV 0),(eV 1)]))
  (qIfR (tV (e2 gEq (eV 0) (eC (.int 1)))) (eC .non)
  (qSeq (sA 2 (eB gTuR2 [(eC (.int 1)),(eV 0)]))
  (qSeq (sA 3 (eF f_z9 [(eV 1),(eV 2)]))
  (qSeq (sFor (iR2 (eC (.int 1)) (eV 0)) (bN 4)
  b0_z13)
  (qR (pT [(pO (eV 3)),(pO (eV 2)),(pComp (iR2 (eC (.int 1)) (eV 0)) 1 (bN 6) (pIx (pCall fP_flow_to [(eV 0),(eV 1),(eV 6),(eV 3)]) 1))])))))))
def f_z14 : List Dat → Option RV := fn 2 0
  (sSeq (sIf (tV (e2 gLt (eV 1) (eB gLen [(eV 0)]))) (sR (e2 gIx (eV 0) (eV 1))) sNx)
  (sR (eC (.int 0))))
def b0_z15 : FS :=
  (sSeq (sA 5 (e2 gMod (e2 gMul (e2 gAdd (e2 gAdd (e2 gAdd (e2 gMod (eV 2) (eC (.int 998244353))) (e2 gMul (e2 gMul (eC (.int 89)) (eV 4)) (eV 4))) (e2 gMul (eC (.int 7)) (eV 1))) (eC (.int 1))) (eC (.int 48271))) (eC (.int 2147483647))))
  (sSeq (sA 5 (e2 gMod (e2 gMul (eV 5) (eV 5)) (eC (.int 1000000007))))
  (sSeq (sA 5 (e2 gMod (e2 gMul (e2 gAdd (eV 5) (e2 gMul (eC (.int 7919)) (eV 4))) (eC (.int 69621))) (eC (.int 2147483587))))
  (sA 3 (e2 gAdd (e2 gMul (eV 3) (eC (.int 1000003))) (e2 gMod (e2 gDiv (eV 5) (eC (.int 8))) (eC (.int 1000003))))))))
def f_z15 : List Dat → Option RV := fn 2 4
  (sSeq (sA 2 (eF f_z14 [(eV 0),(eV 1)]))
  (sSeq (sIf (tV (e2 gGe (eV 2) (e2 gPow (eC (.int 10)) (eC (.int 18))))) (sR (eLst [(eV 2)])) sNx)
  (sSeq (sA 3 (eC (.int 0)))
  (sSeq (sFor (iR1 (eC (.int 48))) (bN 4)
  b0_z15)
  (sR (eLst [(eV 3)]))))))
def f_z16 : List Dat → Option (RV × Dat) := fnM 2 1
  (sSeq (sA 2 (e2 gMod (e2 gIx (eV 0) (eC (.int 0))) (eV 1)))
  (sSeq (sSet 0 (eC (.int 0)) (e2 gDiv (e2 gIx (eV 0) (eC (.int 0))) (eV 1)))
  (sR (eV 2))))
def b0_z17 : FS :=
  (sSeq (sA 6 (eFm f_z16 0 [(eV 1)]))
  (sSeq (sA 7 (e2 gMod (e2 gAdd (e2 gAdd (eV 6) (eC (.int 1))) (eFm f_z16 0 [(e2 gSub (eV 1) (eC (.int 1)))])) (eV 1)))
  (sSeq (sIf (tAnd (tV (e2 gEq (eV 3) (eC (.int 3)))) (tV (e2 gEq (eFm f_z16 0 [(eC (.int 2))]) (eC (.int 0))))) (sA 7 (e2 gMod (e2 gAdd (eV 6) (eC (.int 1))) (eV 1))) sNx)
  (sSeq (sA 8 (e2 gAdd (eC (.int 1)) (eFm f_z16 0 [(e2 gIx (eLst [(eC (.int 1)),(eC (.int 3)),(eC (.int 9)),(eC (.int 1000))]) (eV 3))])))
  (sSeq (sIf (tV (e2 gEq (eV 3) (eC (.int 3)))) (sA 8 (e2 gSub (e2 gMul (eV 8) (e2 gPow (eC (.int 10)) (eC (.int 27)))) (eFm f_z16 0 [(eC (.int 3))]))) sNx)
  (sApp 4 (eTup [(eB gMin2 [(eV 6),(eV 7)]),(eB gMax2 [(eV 6),(eV 7)]),(eV 8)])))))))
def f_z17 : List Dat → Option (RV × Dat) := fnM 3 6
  (sSeq (sA 3 (eFm f_z16 0 [(eC (.int 4))]))
  (sSeq (sA 4 (eLst []))
  (sSeq (sIf (tV (e2 gLt (eV 1) (eC (.int 2)))) (sR (eV 4)) sNx)
  (sSeq (sFor (iR1 (eFm f_z16 0 [(e2 gAdd (eV 2) (eC (.int 1)))])) (bN 5)
  b0_z17)
  (sR (eV 4))))))
def f_z18 : List Dat → Option RV := fn 1 0
  (sR (eAnd (e1 (gIsi isI) (eV 0)) (eNot (e1 (gIsi isB) (eV 0)))))
def f_z19 : List Dat → Option RV := fn 2 0
  (sR (eB gSumL [(eCompM 0 3 (bT [2,3,4]) (tV (e2 gNe (e2 gIn (eV 2) (eV 1)) (e2 gIn (eV 3) (eV 1)))) (eV 4))]))
def f_z20 : List Dat → Option RV := fn 2 0
  (sSeq (sIf (tOr (tNot (tV (e1 (gIsi isT) (eV 1)))) (tOr (tV (e2 gEq (eV 1) (eTup []))) (tNot (tV (eB gAll [(eCompM 1 1 (bN 2) tTrue (eAnd (eF f_z18 [(eV 2)]) (eChain gLt gLt (eC (.int 0)) (eV 2) (eV 0))))]))))) (sR (eC (.bl false))) sNx)
  (sR (eB gAll [(eComp (iR2 (eC (.int 1)) (eB gLen [(eV 1)])) 1 (bN 2) tTrue (e2 gLt (e2 gIx (eV 1) (e2 gSub (eV 2) (eC (.int 1)))) (e2 gIx (eV 1) (eV 2))))])))
def b0_z21 : FS :=
  (sSeq (sIf (tV (e2 gGt (eB gAbs [(eV 9)]) (eV 8))) (sR (eC (.bl false))) sNx)
  (sSeq (sSet 5 (eV 6) (e2 gSub (e2 gIx (eV 5) (eV 6)) (eV 9)))
  (sSet 5 (eV 7) (e2 gAdd (e2 gIx (eV 5) (eV 7)) (eV 9)))))
def f_z21 : List Dat → Option RV := fn 5 6
  (sSeq (sIf (tOr (tNot (tV (e1 (gIsi isL) (eV 2)))) (tOr (tV (e2 gNe (eB gLen [(eV 2)]) (eB gLen [(eV 1)]))) (tNot (tV (eB gAll [(eCompM 2 1 (bN 11) tTrue (eF f_z18 [(eV 11)]))]))))) (sR (eC (.bl false))) sNx)
  (sSeq (sA 5 (e2 gMul (eLst [(eC (.int 0))]) (eV 0)))
  (sSeq (sFor (iZip (eV 1) (eV 2)) (bQ [6,7,8] 9)
  b0_z21)
  (sSeq (sA 10 (e2 gMul (eLst [(eC (.int 0))]) (eV 0)))
  (sSeq (sSet 10 (eC (.int 0)) (e2 gSub (eC (.int 0)) (eV 4)))
  (sSeq (sSet 10 (eV 3) (eV 4))
  (sR (e2 gEq (eV 5) (eV 10)))))))))
def f_z22 : List Dat → Option RV := fn 3 0
  (sSeq (sIf (tOr (tNot (tV (e1 (gIsi isT) (eV 2)))) (tOr (tV (e2 gNe (eB gLen [(eV 2)]) (eC (.int 3)))) (tOr (tNot (tV (eF f_z18 [(e2 gIx (eV 2) (eC (.int 0)))]))) (tNot (tV (eF f_z20 [(eV 0),(e2 gIx (eV 2) (eC (.int 1)))])))))) (sR (eC (.bl false))) sNx)
  (sSeq (sIf (tOr (tV (e2 gNe (eF f_z19 [(eV 1),(e2 gIx (eV 2) (eC (.int 1)))]) (e2 gIx (eV 2) (eC (.int 0))))) (tOr (tNot (tV (e1 (gIsi isL) (e2 gIx (eV 2) (eC (.int 2)))))) (tV (e2 gNe (eB gLen [(e2 gIx (eV 2) (eC (.int 2)))]) (e2 gSub (eV 0) (eC (.int 1))))))) (sR (eC (.bl false))) sNx)
  (sR (eB gAll [(eComp (iR1 (e2 gSub (eV 0) (eC (.int 1)))) 1 (bN 3) tTrue (eF f_z21 [(eV 0),(eV 1),(e2 gIx (e2 gIx (eV 2) (eC (.int 2))) (eV 3)),(e2 gAdd (eV 3) (eC (.int 1))),(e2 gIx (eV 2) (eC (.int 0)))]))]))))
def b0_z23 : FC :=
  (cSeq (cIf 6 (tV (e2 gNe (e2 gIx (e2 gIx (eV 6) (eC (.int 2))) (eV 8)) (e2 gIx (e2 gIx (eV 7) (eC (.int 2))) (eV 8)))) (cRt 6 (eC (.bl false))) cNx)
  (cApp2 6 2 (eV 8) (eC (.int 1))))
def b1_z23 : FS :=
  (sSeq (sA 1 (eF f_z15 [(eV 0),(eV 3)]))
  (sSeq (sA 4 (eFm f_z17 1 [(eV 2),(e2 gIx (eLst [(eC (.int 12)),(eC (.int 12)),(eC (.int 12)),(eC (.int 40))]) (eFm f_z16 1 [(eC (.int 4))]))]))
  (sSeq (sA 5 (eB gList [(eV 4)]))
  (sDeepK 6 fP_lightest [(eV 2),(eV 5)]
  (mIfM 6 (tV (e2 gEq (eV 2) (eC (.int 1)))) (mIf 6 (tV (e2 gIsnN (eV 6) (eC .non))) (sR (eC (.bl false)))
  (mEnd sCt))
  (mIf 6 (tNot (tV (eF f_z22 [(eV 2),(eV 4),(eV 6)]))) (sR (eC (.bl false)))
  (mSeq (cKeep 6 7 (pT [(pO (e2 gIx (eV 6) (eC (.int 0)))),(pO (e2 gIx (eV 6) (eC (.int 1)))),(pComp (iS (e2 gIx (eV 6) (eC (.int 2)))) 1 (bN 9) (pO (eB gList [(eV 9)])))]))
  (mSeq (cFor (iR1 (e2 gSub (eV 2) (eC (.int 1)))) (bN 8)
  b0_z23)
  (mClr 2
  (sSeq (sIf (tOr (tV (e2 gNe (eFk 5 f_z13 [(eV 2),(eV 5)]) (eV 7))) (tV (e2 gNe (eV 5) (eV 4)))) (sR (eC (.bl false))) sNx)
  (sIf (tV (e2 gNe (eV 4) (eLst []))) (sSeq (sE (ePop 5))
  (sIf (tNot (tV (eF f_z22 [(eV 2),(eSl (eV 4) none (some (e1 gNeg (eC (.int 1))))),(eFk 5 f_z13 [(eV 2),(eV 5)])]))) (sR (eC (.bl false))) sNx)) sNx)))))))))))
def f_z23 : List Dat → Option RV := fn 1 8
  (sSeq (sA 1 (eF f_z15 [(eV 0),(eC (.int 0))]))
  (sSeq (sA 2 (e2 gAdd (eC (.int 1)) (eFm f_z16 1 [(e2 gIx (eLst [(eC (.int 5)),(eC (.int 10))]) (eFm f_z16 1 [(eC (.int 2))]))])))
  (sSeq (sFor (iR2 (eC (.int 1)) (eB gMax2 [(eC (.int 2)),(eB gMin2 [(eC (.int 3)),(eB gLen [(eV 0)])])])) (bN 3)
  b1_z23)
  (sR (eC (.bl true))))))
open Dm Fl
def labD (m : Int) : Dat := .tup [.int (m / 2),.int (if m % 2 = 0 then 1 else -1)]
def stepD (s : Step) : Dat := .tup [labD s.1,.int s.2]
def rowD (w : List Step) : Dat := .lst (w.map stepD)
def rowsF (n : Nat) (R : Int → List Step) : Dat := .lst ((List.range n).map fun i : Nat => rowD (R i))
theorem any_iff (ks : List Int) (i : Int) : (ks.any fun k => decide (k = i)) = decide (i ∈ ks) := by
 induction ks with
 | nil => rfl
 | cons k ks ih =>
  rw [List.any_cons,ih]
  by_cases h : k = i
  ·simp [h]
  ·have h' : ¬ i = k := fun z => h z.symm
   simp [h,h']
theorem put_new {ks : List Int} {vs : List Dat} {i : Int} {d : Dat} (h : i ∉ ks) : putKs ks i = ks ++ [i] ∧ putVs ks vs i d = vs ++ [d] := by
 unfold putKs putVs
 rw [any_iff,decide_eq_false h]
 exact ⟨rfl,rfl⟩
theorem lookD_map {α : Type} (key : α → Int) (val : α → Dat) (xs : List α) (i : Int) : lookD (xs.map key) (xs.map val) i = (xs.find? fun x => decide (key x = i)).map val := by
 induction xs with
 | nil => rfl
 | cons x xs ih =>
  rw [List.map_cons,List.map_cons,lookD,List.find?_cons]
  by_cases h : key x = i
  ·simp [h]
  ·simp [h,ih]
theorem nodup_len {α : Type} [DecidableEq α] : ∀ (l m : List α),l.Nodup → (∀ x ∈ l,x ∈ m) → l.length ≤ m.length
 | [],_,_,_ => Nat.zero_le _
 | x :: l,m,h,k => by
  obtain ⟨h1,h2⟩ := List.nodup_cons.mp h
  have hx : x ∈ m := k x List.mem_cons_self
  have := nodup_len l (m.erase x) h2 fun y hy => (List.mem_erase_of_ne (fun e : y = x => h1 (by rw [← e]; exact hy))).mpr (k y (List.mem_cons_of_mem _ hy))
  rw [List.length_erase_of_mem hx] at this
  have := List.length_pos_of_mem hx
  simp
  omega
def places (n : Nat) : List Int := (List.range n).map fun i : Nat => (i : Int)
theorem places_len (n : Nat) : (places n).length = n := by simp [places]
theorem mem_places (n : Nat) (x : Int) : x ∈ places n ↔ 0 ≤ x ∧ x < n := by
 unfold places
 rw [List.mem_map]
 constructor
 ·rintro ⟨i,hi,rfl⟩
  have := List.mem_range.mp hi
  omega
 ·rintro ⟨h0,h1⟩
  exact ⟨x.toNat,List.mem_range.mpr (by omega),by omega⟩
abbrev Sr := List (Int × List Step)
def sk (s : Sr) : List Int := s.map (·.1)
def sv (s : Sr) : List Dat := s.map fun e => rowD e.2
def InR (R : Int → List Step) (p : Int) (s : Step) : Prop := s ∈ R p
structure Simple (R : Int → Step → Prop) (a : Int) (w : List Step) (p : Int) : Prop where
 way : Way R a w p
 nd : (a :: w.map (·.2)).Nodup
structure Fnd (n : Nat) (R : Int → List Step) (a : Int) (s : Sr) : Prop where
 nd : (sk s).Nodup
 pl : ∀ x ∈ sk s,0 ≤ x ∧ x < n
 st : a ∈ sk s
 way : ∀ e ∈ s,Simple (InR R) a e.2 e.1 ∧ ∀ x ∈ a :: e.2.map (·.2),x ∈ sk s
theorem Fnd.len {n : Nat} {R : Int → List Step} {a : Int} {s : Sr} (h : Fnd n R a s) : s.length ≤ n := by
 have := nodup_len (sk s) (places n) h.nd fun x hx => (mem_places n x).mpr (h.pl x hx)
 rw [places_len] at this
 simpa [sk] using this
theorem Fnd.wlen {n : Nat} {R : Int → List Step} {a : Int} {s : Sr} (h : Fnd n R a s) {e : Int × List Step} (he : e ∈ s) : e.2.length < s.length := by
 obtain ⟨h1,h2⟩ := h.way e he
 have := nodup_len (a :: e.2.map (·.2)) (sk s) h1.nd h2
 simp [sk] at this
 omega
theorem sk_snoc (s : Sr) (x : Int) (w : List Step) : sk (s ++ [(x,w)]) = sk s ++ [x] := by simp [sk]
theorem sv_snoc (s : Sr) (x : Int) (w : List Step) : sv (s ++ [(x,w)]) = sv s ++ [rowD w] := by simp [sv]
theorem look_s (s : Sr) (x : Int) : (∃ w,(x,w) ∈ s ∧ lookD (sk s) (sv s) x = some (rowD w)) ∨ (x ∉ sk s ∧ lookD (sk s) (sv s) x = none) := by
 unfold sk sv
 rw [lookD_map (fun e : Int × List Step => e.1) (fun e => rowD e.2) s x]
 cases hf : s.find? fun e => decide (e.1 = x) with
 | none =>
  refine Or.inr ⟨fun h => ?_,rfl⟩
  obtain ⟨e,he,hx⟩ := List.mem_map.mp h
  have := List.find?_eq_none.mp hf e he
  simp [hx] at this
 | some e =>
  have h1 := List.mem_of_find?_eq_some hf
  have h2 := List.find?_some hf
  have h2 : e.1 = x := by simpa using h2
  exact Or.inl ⟨e.2,by rw [← h2]; exact h1,rfl⟩
theorem look_isSome (s : Sr) (x : Int) : (lookD (sk s) (sv s) x).isSome = decide (x ∈ sk s) := by
 rcases look_s s x with ⟨ts,h1,h2⟩ | ⟨h1,h2⟩
 ·have : x ∈ sk s := List.mem_map.mpr ⟨_,h1,rfl⟩
  rw [h2,decide_eq_true this]; rfl
 ·rw [h2,decide_eq_false h1]; rfl
theorem Fnd.start {n : Nat} {R : Int → List Step} {a : Int} (a0 : 0 ≤ a) (a1 : a < n) : Fnd n R a [(a,[])] where
 nd := by simp [sk]
 pl := by intro x hx; simp [sk] at hx; subst hx; exact ⟨a0,a1⟩
 st := by simp [sk]
 way := by
  intro e he
  simp at he
  subst he
  exact ⟨⟨rfl,by simp⟩,by simp [sk]⟩
theorem Fnd.step {n : Nat} {R : Int → List Step} {a : Int} {s : Sr} (h : Fnd n R a s) {p : Int} {w : List Step} (hp : (p,w) ∈ s) {u : Step} (hu : u ∈ R p) (hn : u.2 ∉ sk s) (u0 : 0 ≤ u.2) (u1 : u.2 < n) : Fnd n R a (s ++ [(u.2,w ++ [u])]) where
 nd := by
  rw [sk_snoc]
  exact List.nodup_append.mpr ⟨h.nd,by simp,fun x hx y hy => by rw [List.mem_singleton.mp hy]; exact fun e => hn (e ▸ hx)⟩
 pl := by
  intro x hx
  rw [sk_snoc] at hx
  rcases List.mem_append.mp hx with hx | hx
  ·exact h.pl x hx
  ·rw [List.mem_singleton.mp hx]; exact ⟨u0,u1⟩
 st := by rw [sk_snoc]; exact List.mem_append_left _ h.st
 way := by
  intro e he
  rw [sk_snoc]
  rcases List.mem_append.mp he with he | he
  ·obtain ⟨k1,k2⟩ := h.way e he
   exact ⟨k1,fun x hx => List.mem_append_left _ (k2 x hx)⟩
  ·rw [List.mem_singleton.mp he]
   obtain ⟨k1,k2⟩ := h.way _ hp
   refine ⟨⟨k1.way.snoc hu,?_⟩,fun x hx => ?_⟩
   ·dsimp only at k1 k2 ⊢
    rw [List.map_append,← List.cons_append]
    exact List.nodup_append.mpr ⟨k1.nd,by simp,fun x hx y hy => by rw [List.mem_singleton.mp hy]; exact fun e : x = u.2 => hn (by rw [← e]; exact k2 x hx)⟩
   ·dsimp only at k1 k2 hx ⊢
    rw [List.map_append,← List.cons_append] at hx
    rcases List.mem_append.mp hx with hx | hx
    ·exact List.mem_append_left _ (k2 x hx)
    ·exact List.mem_append_right _ (by simpa using hx)
def Done (R : Int → List Step) (K : List Int) (x : Int) : Prop := ∀ u ∈ R x,u.2 ∈ K
def SEnv (n : Nat) (R : Int → List Step) (a : Int) (s : Sr) (ps : List Int) (c4 c5 : Cell) : Env := [.sh (rowsF n R),.sh (.int a),.ow (.dct (sk s) (sv s)),.ow (.lst (ps.map Dat.int)),c4,c5]
theorem pop_go {ps : List Int} {p0 : Int} {i : Nat} {e : FE} {ρ ρ2 : Env} {Q : Val → Env → Prop} (q : Q (.val (.int p0)) ρ2) (h : ρ[i]? = some (.ow (.lst ((p0 :: ps).map Dat.int)))) (he : e ρ = some (.val (.int 0),ρ)) (hs : ρ.set i (.ow (.lst (ps.map Dat.int))) = ρ2) : We (ePopAt i e) ρ Q :=
 ⟨_,_,by
  unfold ePopAt
  rw [h]
  dsimp only
  rw [he]
  dsimp only
  rw [h]
  dsimp only
  rw [if_pos (by unfold BIG; omega)]
  show some (Val.val (.int p0),ρ.set i (.ow (.lst (ps.map Dat.int)))) = _
  rw [hs],q⟩
theorem rows_ix (n : Nat) (R : Int → List Step) (x : Int) (h0 : 0 ≤ x) (h1 : x < n) : gIx (rowsF n R) (.int x) = some (.val (rowD (R x))) := by
 unfold rowsF gIx
 dsimp only
 rw [atI_map (fun i : Nat => rowD (R i)) (List.range n) x h0 (by rw [List.length_range]; exact h1)]
 have e : (((List.range n)[x.toNat]'(by rw [List.length_range]; omega) : Nat) : Int) = x := by rw [List.getElem_range]; omega
 rw [e]
 rfl
theorem shortest_ok (n : Nat) (hn : n ≤ 40) (R : Int → List Step) (hR : ∀ i : Int,0 ≤ i → i < n → ∀ u ∈ R i,0 ≤ u.2 ∧ u.2 < n) (a : Int) (a0 : 0 ≤ a) (a1 : a < n) :
  ∃ s : Sr,f_z0 [rowsF n R,.int a] = some (.new (.dct (sk s) (sv s))) ∧ Fnd n R a s ∧ ∀ x ∈ sk s,Done R (sk s) x := by
 suffices h : Wr (f_z0 [rowsF n R,.int a]) fun v => ∃ s : Sr,v = .new (.dct (sk s) (sv s)) ∧ Fnd n R a s ∧ ∀ x ∈ sk s,Done R (sk s) x by
  obtain ⟨v,h1,s,rfl,h2⟩ := h
  exact ⟨s,h1,h2⟩
 unfold f_z0
 (refine Dm.Wr.fn ?_ rfl rfl; dsimp only [List.map,List.replicate,List.cons_append,List.nil_append])
 repeat array_get_dec
 refine Ws.wh (fun k ρ => ∃ (s : Sr) (ps : List Int) (c4 c5 : Cell),ρ = SEnv n R a s ps c4 c5 ∧ Fnd n R a s ∧ (∀ x ∈ ps,x ∈ sk s) ∧ (∀ x ∈ sk s,x ∈ ps ∨ Done R (sk s) x) ∧ k = ps.length + (n - s.length) ∧ k ≤ 40) ?_ 100 n _ (by omega) ⟨[(a,[])],[a],_,_,rfl,Fnd.start a0 a1,by simp [sk],by simp [sk],by simp; omega,hn⟩
 rintro k ρ ⟨s,ps,c4,c5,rfl,F,hps,hd,hk,hk40⟩
 unfold SEnv
 refine Wt.Tr ?_
 refine We.w rfl ?_
 refine ⟨_,!(ps.map Dat.int).isEmpty,rfl,rfl,?_⟩
 have len := F.len
 cases ps with
 | nil =>
  refine Wif.no rfl ?_
  refine Ws.R (We.w rfl (WR.slot ?_ rfl))
  exact ⟨s,rfl,F,fun x hx => (hd x hx).resolve_left (by simp)⟩
 | cons p0 ps0 =>
  refine Wif.yes rfl ?_
  unfold b1_z0
  refine Ws.seq (Ws.A ?_ (by decide))
  refine pop_go (ps := ps0) (p0 := p0) ?_ rfl rfl rfl
  refine WA.val ?_ (by first | (dsimp only [List.set]; first | done | rfl) | rfl)
  have hp0 : p0 ∈ sk s := hps p0 (by simp)
  obtain ⟨q0,q1⟩ := F.pl p0 hp0
  refine Ws.For (Wi.S (We.e2 (We.v rfl (We.v rfl (Wg2.ix ?_ rfl rfl (rows_ix n R p0 q0 q1))))))
  refine Wk.val (seqL_go ?_)
  refine Ws.inv stepD _ _ (R p0) _ _ _ _ _ (fun p q ρ => ∃ (s : Sr) (ps : List Int) (c5 : Cell),ρ = SEnv n R a s ps (.sh (.int p0)) c5 ∧ Fnd n R a s ∧ (∀ x ∈ ps,x ∈ sk s) ∧ p0 ∈ sk s ∧ (∀ x ∈ sk s,x ∈ ps ∨ x = p0 ∨ Done R (sk s) x) ∧ (∀ u ∈ p,u.2 ∈ sk s) ∧ k = ps.length + 1 + (n - s.length)) ⟨s,ps0,_,rfl,F,fun x hx => hps x (by simp [hx]),hp0,?_,by simp,by rw [hk]; simp⟩ ?_ ?_
  ·intro x hx
   rcases hd x hx with h | h
   ·rcases List.mem_cons.mp h with h | h
    ·exact .inr (.inl h)
    ·exact .inl h
   ·exact .inr (.inr h)
  ·rintro p u q ρ e' ⟨s,ps,c5,rfl,F,hps,hp0,hd,hp,hk⟩
   have len := F.len
   have hu : u ∈ R p0 := by rw [e']; simp
   obtain ⟨u0,u1⟩ := hR p0 q0 q1 u hu
   unfold SEnv
   refine Dm.bind_go rfl (by first | (dsimp only [List.set]; first | done | rfl) | rfl) ?_
   unfold b0_z0
   refine Ws.If (Wt.V (We.e2 (We.e2 (We.v rfl (We.c (Wg2.ix ?_ rfl rfl rfl))))))
   refine We.w rfl (Wg2.dnin ?_ rfl rfl)
   refine Wb.mk ?_
   rw [look_isSome]
   refine ⟨fun h => ?_,fun h => ?_⟩
   ·have hnew := ndT h
    obtain ⟨w,t1,t2⟩ : ∃ w,(p0,w) ∈ s ∧ lookD (sk s) (sv s) p0 = some (rowD w) := by
     rcases look_s s p0 with h | h
     ·exact h
     ·exact absurd hp0 h.1
    have wl := F.wlen t1
    refine Ws.seq (Ws.Dput (We.e2 (We.e2 (We.w rfl (We.v rfl (Wg2.dx t2 ?_ rfl rfl))))))
    refine We.L (Was.cons (We.v rfl (Was.nil (WT.mk ?_ rfl rfl (by exact Nat.le_of_ble_eq_true rfl)))))
    refine Wg2.addL ?_ rfl rfl (by rw [List.length_map]; dsimp only at wl; simp; unfold SZ; omega)
    refine Wk.new (own_go rfl (We.e2 (We.v rfl (We.c (Wg2.ix ?_ rfl rfl rfl)))))
    refine Wint.mk (dput_go ?_ rfl (by first | (dsimp only [List.set]; first | done | rfl) | rfl) (by simp only [sk,List.length_map]; unfold SZ; omega))
    refine Ws.App (We.e2 (We.v rfl (We.c (Wg2.ix ?_ rfl rfl rfl)))) rfl
    refine Wk.val (app_go ?_ rfl (by first | (dsimp only [List.set]; first | done | rfl) | rfl) (by rw [List.length_map]; unfold SZ; omega))
    have F' := F.step t1 hu hnew u0 u1
    have len' := F'.len
    have em : Dat.lst (w.map stepD ++ [stepD u]) = rowD (w ++ [u]) := by simp [rowD]
    obtain ⟨p1,p2⟩ := put_new (ks := sk s) (vs := sv s) (i := u.2) (d := rowD (w ++ [u])) hnew
    refine ⟨s ++ [(u.2,w ++ [u])],ps ++ [u.2],.sh (stepD u),?_,F',?_,?_,?_,?_,?_⟩
    ·rw [em,p1,p2,sk_snoc,sv_snoc,List.map_append]
     rfl
    ·intro x hx
     rw [sk_snoc]
     rcases List.mem_append.mp hx with hx | hx
     ·exact List.mem_append_left _ (hps x hx)
     ·exact List.mem_append_right _ hx
    ·rw [sk_snoc]; exact List.mem_append_left _ hp0
    ·intro x hx
     rw [sk_snoc] at hx ⊢
     rcases List.mem_append.mp hx with hx | hx
     ·rcases hd x hx with h | h | h
      ·exact .inl (List.mem_append_left _ h)
      ·exact .inr (.inl h)
      ·exact .inr (.inr fun y hy => List.mem_append_left _ (h y hy))
     ·exact .inl (List.mem_append_right _ hx)
    ·intro v hv
     rw [sk_snoc]
     rcases List.mem_append.mp hv with hv | hv
     ·exact List.mem_append_left _ (hp v hv)
     ·rw [List.mem_singleton.mp hv]; simp
    ·rw [hk]; simp at len' ⊢; omega
   ·have hold := ndF h
    refine Ws.nx ?_
    refine ⟨s,ps,.sh (stepD u),rfl,F,hps,hp0,hd,fun v hv => ?_,hk⟩
    rcases List.mem_append.mp hv with hv | hv
    ·exact hp v hv
    ·rw [List.mem_singleton.mp hv]; exact hold
  ·rintro ρ ⟨s,ps,c5,rfl,F,hps,hp0,hd,hp,hk⟩
   refine ⟨ps.length + (n - s.length),by omega,s,ps,_,_,rfl,F,hps,fun x hx => ?_,rfl,by omega⟩
   rcases hd x hx with h | rfl | h
   ·exact .inl h
   ·exact .inr hp
   ·exact .inr h
def hvD (t : Hv) : Dat := .tup [.int t.a,.int t.b,.int t.w]
def hsD (h : List Hv) : Dat := .lst (h.map hvD)
def intL (xs : List Int) : Dat := .lst (xs.map Dat.int)
def fA (F : List Int) (i : Nat) : Int := F.getD i 0
def rowsG (n : Nat) (R : Int → List Step) : List (List Dat) := (List.range n).map fun i : Nat => (R i).map stepD
def putR (R : Int → List Step) (k : Int) (s : Step) : Int → List Step := fun x => if x = k then R x ++ [s] else R x
theorem rowsG_len (n : Nat) (R : Int → List Step) : (rowsG n R).length = n := by simp [rowsG]
theorem rowsG_get (n : Nat) (R : Int → List Step) {k : Int} (h0 : 0 ≤ k) (h1 : k < n) : (rowsG n R)[k.toNat]? = some ((R k).map stepD) := by
 unfold rowsG
 rw [List.getElem?_map,List.getElem?_range (by omega)]
 have : ((k.toNat : Nat) : Int) = k := by omega
 show some ((R ((k.toNat : Nat) : Int)).map stepD) = _
 rw [this]
theorem rowsG_put (n : Nat) (R : Int → List Step) {k : Int} (s : Step) (h0 : 0 ≤ k) (h1 : k < n) : (rowsG n R).set k.toNat ((R k).map stepD ++ [stepD s]) = rowsG n (putR R k s) := by
 apply List.ext_getElem?
 intro i
 by_cases e : k.toNat = i
 ·subst e
  rw [List.getElem?_set_self (by rw [rowsG_len]; omega),rowsG_get n _ h0 h1]
  unfold putR
  rw [if_pos rfl,List.map_append]
  rfl
 ·rw [List.getElem?_set_ne e]
  unfold rowsG
  rw [List.getElem?_map,List.getElem?_map]
  by_cases hi : i < n
  ·rw [List.getElem?_range hi]
   show some ((R (i : Nat)).map stepD) = some ((putR R k s (i : Nat)).map stepD)
   unfold putR
   rw [if_neg (by omega)]
  ·rw [List.getElem?_eq_none (by simp; omega)]
   rfl
theorem nApp_go {i e : FE} {ρ ρ1 ρ2 ρ3 : Env} {rows : List (List Dat)} {k : Int} {m : Nat} {row : List Dat} {x : Val} {d : Dat} (h1 : i ρ = some (.val (.int k),ρ1)) (h2 : ixN rows.length k = some m) (h3 : rows[m]? = some row) (h4 : e ρ1 = some (x,ρ2)) (h5 : tk ρ2 x = some (d,ρ3)) (h6 : row.length < SZ) :
  nApp i e ρ rows = some (ρ3,rows.set m (row ++ [d])) := by
 unfold nApp
 rw [h1]
 dsimp only
 rw [h2]
 dsimp only
 rw [h3]
 dsimp only
 rw [h4]
 dsimp only
 rw [h5]
 dsimp only
 rw [if_pos h6]
theorem ixN_at {n : Nat} {k : Int} (h0 : 0 ≤ k) (h1 : k < n) : ixN n k = some k.toNat := by
 unfold ixN
 rw [if_pos h0,if_pos h1]
theorem gIx_hs (h : List Hv) {i : Nat} (hi : i < h.length) : gIx (hsD h) (.int (i : Nat)) = some (.val (hvD (gT h i))) := by
 unfold hsD gIx
 dsimp only
 rw [atI_map hvD h _ (by omega) (by omega)]
 unfold gT
 rw [List.getD_eq_getElem?_getD,List.getElem?_eq_getElem hi]
 rfl
theorem gIx_f (F : List Int) {i : Nat} (hi : i < F.length) : gIx (intL F) (.int (i : Nat)) = some (.val (.int (fA F i))) := by
 unfold intL gIx fA
 dsimp only
 rw [atI_map Dat.int F _ (by omega) (by omega)]
 rw [List.getD_eq_getElem?_getD,List.getElem?_eq_getElem hi]
 rfl
theorem room_ok (h : List Hv) (F : List Int) (hl : F.length = h.length) {i : Nat} (hi : i < h.length) (s : Int) (hs : s = 1 ∨ s = -1) : f_z10 [hsD h,intL F,.tup [.int (i : Nat),.int s]] = some (.val (.int (wI h i - s * fA F i))) := by
 apply Wr.eq
 unfold f_z10
 (refine Dm.Wr.fn ?_ rfl rfl; dsimp only [List.map,List.replicate,List.cons_append,List.nil_append])
 refine Ws.R (We.e2 (We.e2 (We.e2 (We.v rfl (We.e2 (We.v rfl (We.c (Wg2.ix ?_ rfl rfl rfl))))))))
 refine Wg2.ix ?_ rfl rfl (gIx_hs h hi)
 refine We.c (Wg2.ix ?_ rfl rfl rfl)
 refine We.e2 (We.e2 (We.v rfl (We.c (Wg2.ix ?_ rfl rfl rfl))))
 refine We.e2 (We.v rfl (We.e2 (We.v rfl (We.c (Wg2.ix ?_ rfl rfl rfl)))))
 refine Wg2.ix ?_ rfl rfl (gIx_f F (by omega))
 refine Wg2.mul ?_ rfl rfl (.inl (by unfold B64; omega))
 exact Wg2.sub rfl rfl rfl
def addT (h : List Hv) (F : List Int) (R : Int → List Step) (i : Nat) : Int → List Step :=
 let R1 := if 0 < wI h i - 1 * fA F i then putR R (gT h i).a (2 * (i : Int),(gT h i).b) else R
 if 0 < wI h i - -1 * fA F i then putR R1 (gT h i).b (2 * (i : Int) + 1,(gT h i).a) else R1
def openR (h : List Hv) (F : List Int) : Nat → Int → List Step
 | 0 => fun _ => []
 | m + 1 => addT h F (openR h F m) m
theorem mem_put {R : Int → List Step} {k : Int} {s u : Step} {x : Int} : u ∈ putR R k s x ↔ u ∈ R x ∨ (x = k ∧ u = s) := by
 unfold putR
 by_cases e : x = k
 ·rw [if_pos e,List.mem_append,List.mem_singleton]; simp [e]
 ·rw [if_neg e]; simp [e]
theorem mem_open (h : List Hv) (F : List Int) : ∀ (m : Nat) (x : Int) (u : Step),u ∈ openR h F m x ↔ ∃ i,i < m ∧ ((0 < wI h i - 1 * fA F i ∧ x = (gT h i).a ∧ u = (2 * (i : Int),(gT h i).b)) ∨ (0 < wI h i - -1 * fA F i ∧ x = (gT h i).b ∧ u = (2 * (i : Int) + 1,(gT h i).a)))
 | 0,x,u => by simp [openR]
 | m + 1,x,u => by
  have ih := mem_open h F m x u
  have key : u ∈ openR h F (m + 1) x ↔ u ∈ openR h F m x ∨ ((0 < wI h m - 1 * fA F m ∧ x = (gT h m).a ∧ u = (2 * (m : Int),(gT h m).b)) ∨ (0 < wI h m - -1 * fA F m ∧ x = (gT h m).b ∧ u = (2 * (m : Int) + 1,(gT h m).a))) := by
   show u ∈ addT h F (openR h F m) m x ↔ _
   unfold addT
   by_cases h1 : 0 < wI h m - 1 * fA F m <;> by_cases h2 : 0 < wI h m - -1 * fA F m
   ·rw [if_pos h1,if_pos h2,mem_put,mem_put]; simp only [h1,h2,true_and]; exact or_assoc
   ·rw [if_pos h1,if_neg h2,mem_put]; simp only [h1,h2,true_and,false_and,or_false]
   ·rw [if_neg h1,if_pos h2,mem_put]; simp only [h1,h2,true_and,false_and,false_or]
   ·rw [if_neg h1,if_neg h2]; simp only [h1,h2,false_and,or_false]
  rw [key,ih]
  constructor
  ·rintro (⟨i,hi,hh⟩ | hh)
   ·exact ⟨i,by omega,hh⟩
   ·exact ⟨m,by omega,hh⟩
  ·rintro ⟨i,hi,hh⟩
   by_cases e : i = m
   ·subst e; exact .inr hh
   ·exact .inl ⟨i,by omega,hh⟩
theorem open_len (h : List Hv) (F : List Int) : ∀ (m : Nat) (x : Int),(openR h F m x).length ≤ 2 * m
 | 0,x => by simp [openR]
 | m + 1,x => by
  have ih := open_len h F m x
  have hp : ∀ (R : Int → List Step) (k : Int) (s : Step),(putR R k s x).length ≤ (R x).length + 1 := fun R k s => by unfold putR; split <;> simp
  show (addT h F (openR h F m) m x).length ≤ _
  unfold addT
  split
  ·have a1 := hp (if 0 < wI h m - 1 * fA F m then putR (openR h F m) (gT h m).a (2 * (m : Int),(gT h m).b) else openR h F m) (gT h m).b (2 * (m : Int) + 1,(gT h m).a)
   have a2 : ((if 0 < wI h m - 1 * fA F m then putR (openR h F m) (gT h m).a (2 * (m : Int),(gT h m).b) else openR h F m) x).length ≤ (openR h F m x).length + 1 := by
    split
    ·exact hp _ _ _
    ·omega
   omega
  ·split
   ·have := hp (openR h F m) (gT h m).a (2 * (m : Int),(gT h m).b); omega
   ·omega
theorem enum_h : ∀ (k : Nat) (l : List Hv),enumD k (l.map hvD) = (List.range l.length).map fun i => .tup [.int ((k + i : Nat) : Int),hvD (l.getD i default)]
 | _,[] => rfl
 | k,t :: l => by
  rw [List.map_cons,enumD,enum_h (k + 1) l,List.length_cons,List.range_succ_eq_map,List.map_cons,List.map_map]
  congr 1
  apply List.map_congr_left
  intro i _
  show Dat.tup [.int ((k + 1 + i : Nat) : Int),_] = Dat.tup [.int ((k + (i + 1) : Nat) : Int),_]
  have : k + 1 + i = k + (i + 1) := by omega
  rw [this]
  rfl
theorem nMk_bN (pre : Env) (k : Nat) (hk : pre.length = k) (h0 : k ≠ 0) : ∀ (ds : List Dat) (c : Cell),∃ c',nMk (bN k) ds (pre ++ [c]) = some (pre ++ [c'])
 | [],c => ⟨c,rfl⟩
 | d :: ds,c => by
  obtain ⟨c',e⟩ := nMk_bN pre k hk h0 ds (.sh d)
  refine ⟨c',?_⟩
  rw [nMk]
  have : bN k d (pre ++ [c]) = some (pre ++ [.sh d]) := by
   unfold bN
   rw [if_neg h0,List.set_append_right _ _ (by omega)]
   simp [hk]
  rw [this]
  exact e
theorem lab_even (i : Nat) : labD (2 * (i : Int)) = .tup [.int (i : Nat),.int 1] := by
 unfold labD
 have e1 : (2 * (i : Int)) / 2 = i := by omega
 have e2 : (2 * (i : Int)) % 2 = 0 := by omega
 rw [e1,if_pos e2]
theorem lab_odd (i : Nat) : labD (2 * (i : Int) + 1) = .tup [.int (i : Nat),.int (-1)] := by
 unfold labD
 have e1 : (2 * (i : Int) + 1) / 2 = i := by omega
 have e2 : ¬ (2 * (i : Int) + 1) % 2 = 0 := by omega
 rw [e1,if_neg e2]
def HP (n : Nat) (h : List Hv) : Prop := ∀ i < h.length,0 ≤ (gT h i).a ∧ (gT h i).a < n ∧ 0 ≤ (gT h i).b ∧ (gT h i).b < n
def OE (n : Nat) (h : List Hv) (F : List Int) (c4 c5 : Cell) : Env := [.sh (.int (n : Nat)),.sh (hsD h),.sh (intL F),.un,c4,c5]
theorem open_one (n : Nat) (h : List Hv) (hp : HP n h) (hl : h.length ≤ 100) (F : List Int) (fl : F.length = h.length) {i : Nat} (hi : i < h.length) :
  b0_z11 (OE n h F (.sh (.int (i : Nat))) (.sh (hvD (gT h i)))) (rowsG n (openR h F i)) = some (OE n h F (.sh (.int (i : Nat))) (.sh (hvD (gT h i))),rowsG n (openR h F (i + 1))) := by
 obtain ⟨a0,a1,b0,b1⟩ := hp i hi
 have t1 : tV (e2 gGt (eF f_z10 [(eV 1),(eV 2),(eTup [(eV 4),(eC (.int 1))])]) (eC (.int 0))) (OE n h F (.sh (.int (i : Nat))) (.sh (hvD (gT h i)))) = some (decide (0 < wI h i - 1 * fA F i),OE n h F (.sh (.int (i : Nat))) (.sh (hvD (gT h i)))) := by
  apply Wt.get
  refine Wt.V (We.e2 (We.F (Was.cons (We.v rfl (Was.cons (We.v rfl (Was.cons (We.T (Was.cons (We.v rfl (Was.cons (We.c (Was.nil (WT.mk ?_ rfl rfl (by exact Nat.le_of_ble_eq_true rfl)))))))))))))))
  refine Was.nil (WF.val (room_ok h F fl hi 1 (.inl rfl)) ?_ rfl rfl)
  exact We.c (Wg2.gt (Wb.mk ⟨rfl,rfl⟩) rfl rfl)
 have t2 : tV (e2 gGt (eF f_z10 [(eV 1),(eV 2),(eTup [(eV 4),(e1 gNeg (eC (.int 1)))])]) (eC (.int 0))) (OE n h F (.sh (.int (i : Nat))) (.sh (hvD (gT h i)))) = some (decide (0 < wI h i - -1 * fA F i),OE n h F (.sh (.int (i : Nat))) (.sh (hvD (gT h i)))) := by
  apply Wt.get
  refine Wt.V (We.e2 (We.F (Was.cons (We.v rfl (Was.cons (We.v rfl (Was.cons (We.T (Was.cons (We.v rfl (Was.cons (We.e1 (We.c (Wg1.mk (Was.nil (WT.mk ?_ rfl rfl (by exact Nat.le_of_ble_eq_true rfl))) rfl rfl))))))))))))))
  refine Was.nil (WF.val (room_ok h F fl hi (-1) (.inr rfl)) ?_ rfl rfl)
  exact We.c (Wg2.gt (Wb.mk ⟨rfl,rfl⟩) rfl rfl)
 have app1 : ∀ R : Int → List Step,(R (gT h i).a).length < SZ → nApp (e2 gIx (eV 5) (eC (.int 0))) (eTup [(eTup [(eV 4),(eC (.int 1))]),(e2 gIx (eV 5) (eC (.int 1)))]) (OE n h F (.sh (.int (i : Nat))) (.sh (hvD (gT h i)))) (rowsG n R) = some (OE n h F (.sh (.int (i : Nat))) (.sh (hvD (gT h i))),rowsG n (putR R (gT h i).a (2 * (i : Int),(gT h i).b))) := fun R hR => by
  rw [nApp_go (k := (gT h i).a) (m := (gT h i).a.toNat) (row := (R (gT h i).a).map stepD) (d := stepD (2 * (i : Int),(gT h i).b)) (ρ1 := OE n h F (.sh (.int (i : Nat))) (.sh (hvD (gT h i)))) (ρ3 := OE n h F (.sh (.int (i : Nat))) (.sh (hvD (gT h i)))) (x := .val (stepD (2 * (i : Int),(gT h i).b))) rfl (by rw [rowsG_len]; exact ixN_at a0 a1) (rowsG_get n R a0 a1) (by unfold stepD; rw [lab_even]; rfl) rfl (by rw [List.length_map]; exact hR)]
  rw [rowsG_put n R _ a0 a1]
 have app2 : ∀ R : Int → List Step,(R (gT h i).b).length < SZ → nApp (e2 gIx (eV 5) (eC (.int 1))) (eTup [(eTup [(eV 4),(e1 gNeg (eC (.int 1)))]),(e2 gIx (eV 5) (eC (.int 0)))]) (OE n h F (.sh (.int (i : Nat))) (.sh (hvD (gT h i)))) (rowsG n R) = some (OE n h F (.sh (.int (i : Nat))) (.sh (hvD (gT h i))),rowsG n (putR R (gT h i).b (2 * (i : Int) + 1,(gT h i).a))) := fun R hR => by
  rw [nApp_go (k := (gT h i).b) (m := (gT h i).b.toNat) (row := (R (gT h i).b).map stepD) (d := stepD (2 * (i : Int) + 1,(gT h i).a)) (ρ1 := OE n h F (.sh (.int (i : Nat))) (.sh (hvD (gT h i)))) (ρ3 := OE n h F (.sh (.int (i : Nat))) (.sh (hvD (gT h i)))) (x := .val (stepD (2 * (i : Int) + 1,(gT h i).a))) rfl (by rw [rowsG_len]; exact ixN_at b0 b1) (rowsG_get n R b0 b1) (by unfold stepD; rw [lab_odd]; rfl) rfl (by rw [List.length_map]; exact hR)]
  rw [rowsG_put n R _ b0 b1]
 have la := open_len h F i (gT h i).a
 have lb := open_len h F i (gT h i).b
 have hz : SZ = 100000 := rfl
 have hp1 : ∀ (R : Int → List Step) (k : Int) (s : Step) (x : Int),(putR R k s x).length ≤ (R x).length + 1 := fun R k s x => by unfold putR; split <;> simp
 show _ = some (_,rowsG n (addT h F (openR h F i) i))
 unfold b0_z11 nSeq nIf addT
 rw [t1]
 by_cases h1 : 0 < wI h i - 1 * fA F i
 ·rw [decide_eq_true h1,if_pos h1]
  dsimp only
  rw [app1 _ (by omega)]
  dsimp only
  rw [t2]
  by_cases h2 : 0 < wI h i - -1 * fA F i
  ·rw [decide_eq_true h2,if_pos h2]
   exact app2 _ (by have := hp1 (openR h F i) (gT h i).a (2 * (i : Int),(gT h i).b) (gT h i).b; omega)
  ·rw [decide_eq_false h2,if_neg h2]; rfl
 ·rw [decide_eq_false h1,if_neg h1]
  dsimp only [nNx]
  rw [t2]
  by_cases h2 : 0 < wI h i - -1 * fA F i
  ·rw [decide_eq_true h2,if_pos h2]
   exact app2 _ (by omega)
  ·rw [decide_eq_false h2,if_neg h2]
def enH (h : List Hv) (i : Nat) : Dat := .tup [.int ((0 + i : Nat) : Int),hvD (gT h i)]
theorem open_loop (n : Nat) (h : List Hv) (hp : HP n h) (hl : h.length ≤ 100) (F : List Int) (fl : F.length = h.length) : ∀ (k m : Nat) (c4 c5 : Cell),m + k ≤ h.length →
  ∃ c4' c5',nForD (bT [4,5]) b0_z11 ((List.range' m k).map (enH h)) (OE n h F c4 c5) (rowsG n (openR h F m)) = some (OE n h F c4' c5',rowsG n (openR h F (m + k)))
 | 0,m,c4,c5,_ => ⟨c4,c5,rfl⟩
 | k + 1,m,c4,c5,hm => by
  obtain ⟨c4',c5',e⟩ := open_loop n h hp hl F fl k (m + 1) (.sh (.int (m : Nat))) (.sh (hvD (gT h m))) (by omega)
  refine ⟨c4',c5',?_⟩
  rw [List.range'_succ,List.map_cons,nForD]
  have eb : bT [4,5] (enH h m) (OE n h F c4 c5) = some (OE n h F (.sh (.int (m : Nat))) (.sh (hvD (gT h m)))) := by
   unfold enH
   rw [Nat.zero_add]
   rfl
  rw [eb]
  dsimp only
  rw [open_one n h hp hl F fl (by omega)]
  dsimp only
  rw [e]
  have : m + 1 + k = m + (k + 1) := by omega
  rw [this]
theorem noLs_step (u : Step) : noLs (stepD u) = true := by
 unfold stepD labD
 simp [noLs,noLss]
theorem rows_leaf (n : Nat) (R : Int → List Step) : leafOks ((rowsG n R).map fun row => .l (row.map .s)) = true := by
 unfold rowsG
 rw [List.map_map]
 have row : ∀ w : List Step,leafOks ((w.map stepD).map .s) = true := fun w => by
  induction w with
  | nil => simp [leafOks]
  | cons u w ih => rw [List.map_cons,List.map_cons,leafOks,ih,leafOk,noLs_step]; rfl
 induction (List.range n) with
 | nil => simp [leafOks]
 | cons i l ih =>
  rw [List.map_cons,leafOks,ih]
  show (leafOk (.l (((R i).map stepD).map .s)) && true) = true
  rw [leafOk,row]
  rfl
theorem rows_dats (n : Nat) (R : Int → List Step) : Dat.lst (Dp.dats ((rowsG n R).map fun row => .l (row.map .s))) = rowsF n R := by
 unfold rowsG rowsF
 rw [Dp.dats_map,List.map_map,List.map_map]
 congr 1
 apply List.map_congr_left
 intro i _
 show (Dp.l (((R i).map stepD).map .s)).dat = _
 rw [Dp.dat,Dp.dats_s]
 rfl
theorem openP_ok (n : Nat) (hn : n ≤ 1000) (h : List Hv) (hp : HP n h) (hl : h.length ≤ 100) (F : List Int) (fl : F.length = h.length) : fP_open_steps [.int (n : Nat),hsD h,intL F] = some (.l ((rowsG n (openR h F h.length)).map fun row => .l (row.map .s))) := by
 obtain ⟨c4,c5,e⟩ := open_loop n h hp hl F fl h.length 0 .un .un (by omega)
 obtain ⟨c',e2⟩ := nMk_bN [.sh (.int (n : Nat)),.sh (hsD h),.sh (intL F),.un,.un,.un] 6 rfl (by decide) (ups 0 n) .un
 have h0 : rowsG n (openR h F 0) = List.replicate n [] := by
  unfold rowsG
  apply List.ext_getElem?
  intro i
  by_cases hi : i < n
  ·rw [List.getElem?_map,List.getElem?_range hi,List.getElem?_replicate,if_pos hi]
   rfl
  ·rw [List.getElem?_eq_none (by simp; omega),List.getElem?_eq_none (by simp; omega)]
 have hu : (ups 0 n).length = n := by simp [ups]
 have e1 : iR1 (eV 0) (OE n h F .un .un) = some (ups 0 n,OE n h F .un .un) := by
  show (if (n : Int) ≤ BIG ∧ -BIG ≤ (n : Int) then some (ups 0 (n : Int).toNat,_) else none) = _
  rw [if_pos (by unfold BIG; omega)]
  rfl
 rw [h0,Nat.zero_add,← List.range_eq_range'] at e
 have ei : iEn (eV 1) (OE n h F .un .un) = some ((List.range h.length).map (enH h),OE n h F .un .un) := by
  show some (enumD 0 (h.map hvD),_) = _
  rw [enum_h 0 h]
  rfl
 have this : nFor (iEn (eV 1)) (bT [4,5]) b0_z11 (OE n h F .un .un) (List.replicate n []) = some (OE n h F c4 c5,rowsG n (openR h F h.length)) := by
  unfold nFor
  rw [ei]
  exact e
 unfold fP_open_steps fnP
 rw [if_pos (show ([Dat.int (n : Nat),hsD h,intL F] : List Dat).length = 3 from rfl)]
 show qNest 3 (iR1 (eV 0)) 1 (bN 6) (nFor (iEn (eV 1)) (bT [4,5]) b0_z11) (OE n h F .un .un) = _
 unfold qNest
 rw [if_neg (by decide),e1]
 dsimp only
 rw [if_pos (by rw [hu]; unfold SZ; omega)]
 show (match nMk (bN 6) (ups 0 n) ([.sh (.int (n : Nat)),.sh (hsD h),.sh (intL F),.un,.un,.un] ++ [.un]) with | none => none | some ρ2 => _) = _
 rw [e2]
 dsimp only
 rw [hu]
 show (match nFor (iEn (eV 1)) (bT [4,5]) b0_z11 (OE n h F .un .un) (List.replicate n []) with | none => none | some (_,r3) => _) = _
 rw [this]
def webOf (h : List Hv) : Fl.Web := ⟨h.length,fun i => (gT h i).a,fun i => (gT h i).b,fun i => wI h i⟩
theorem open_leads (h : List Hv) (F : List Int) (p : Int) (s : Step) : s ∈ openR h F h.length p ↔ (webOf h).Leads p s ∧ ∀ i : Nat,(i : Int) = s.1 / 2 → 0 < wI h i - sgn s.1 * fA F i := by
 rw [mem_open]
 unfold Fl.Web.Leads sgn
 constructor
 ·rintro ⟨i,hi,⟨h1,h2,h3⟩ | ⟨h1,h2,h3⟩⟩
  ·subst h3
   have e1 : (2 * (i : Int)) / 2 = i := by omega
   have e2 : (2 * (i : Int)) % 2 = 0 := by omega
   dsimp only
   rw [e1,if_pos e2]
   refine ⟨⟨by omega,by show (i : Int) < ((h.length : Nat) : Int); omega,by rw [Int.toNat_natCast]; exact ⟨h2.symm,rfl⟩⟩,fun j hj => ?_⟩
   have : j = i := by omega
   subst this
   rw [if_pos e2]; exact h1
  ·subst h3
   have e1 : (2 * (i : Int) + 1) / 2 = i := by omega
   have e2 : ¬ (2 * (i : Int) + 1) % 2 = 0 := by omega
   dsimp only
   rw [e1,if_neg e2]
   refine ⟨⟨by omega,by show (i : Int) < ((h.length : Nat) : Int); omega,by rw [Int.toNat_natCast]; exact ⟨h2.symm,rfl⟩⟩,fun j hj => ?_⟩
   have : j = i := by omega
   subst this
   rw [if_neg e2]; exact h1
 ·rintro ⟨⟨h0,h1,h2⟩,h3⟩
  have h1 : s.1 / 2 < ((h.length : Nat) : Int) := h1
  have h3 := h3 (s.1 / 2).toNat (by omega)
  refine ⟨(s.1 / 2).toNat,by omega,?_⟩
  split at h2
  ·rename_i hm
   rw [if_pos hm] at h3
   refine .inl ⟨h3,h2.1.symm,?_⟩
   have : s.1 = 2 * (((s.1 / 2).toNat : Nat) : Int) := by omega
   exact Prod.ext this h2.2.symm
  ·rename_i hm
   rw [if_neg hm] at h3
   refine .inr ⟨h3,h2.1.symm,?_⟩
   have : s.1 = 2 * (((s.1 / 2).toNat : Nat) : Int) + 1 := by omega
   exact Prod.ext this h2.2.symm
def tiesOf (h : List Hv) : List Tie := (List.range h.length).map fun i : Nat => ⟨(i : Int),(gT h i).a,(gT h i).b⟩
theorem ties_nd (h : List Hv) : ((tiesOf h).map (·.m)).Nodup := by
 unfold tiesOf
 rw [List.map_map,List.Nodup,List.pairwise_map]
 exact List.Pairwise.imp (R := fun a b => a < b) (fun {a b} z => by show (a : Int) ≠ (b : Int); omega) List.pairwise_lt_range
theorem leads_along {h : List Hv} (hne : ∀ i < h.length,(gT h i).a ≠ (gT h i).b) {p : Int} {s : Step} (l : (webOf h).Leads p s) : Along (tiesOf h) p (s.1 / 2,s.2) := by
 obtain ⟨h0,h1,h2⟩ := l
 have h1 : s.1 / 2 < ((h.length : Nat) : Int) := h1
 have hi : (s.1 / 2).toNat < h.length := by omega
 have hn := hne _ hi
 refine ⟨⟨((s.1 / 2).toNat : Nat),(gT h (s.1 / 2).toNat).a,(gT h (s.1 / 2).toNat).b⟩,List.mem_map.mpr ⟨(s.1 / 2).toNat,List.mem_range.mpr hi,rfl⟩,by show (((s.1 / 2).toNat : Nat) : Int) = s.1 / 2; omega,hn,?_⟩
 split at h2
 ·exact .inl ⟨h2.1,h2.2⟩
 ·exact .inr ⟨h2.1,h2.2⟩
theorem way_map {R R' : Int → Step → Prop} (g : Step → Step) (hg : ∀ s,(g s).2 = s.2) (hR : ∀ p s,R p s → R' p (g s)) : ∀ {w : List Step} {x y : Int},Way R x w y → Way R' x (w.map g) y
 | [],_,_,h => h
 | s :: w,x,y,h => ⟨hR _ _ h.1,by
   show Way R' (g s).2 (w.map g) y
   rw [hg s]
   exact way_map g hg hR h.2⟩
theorem once {h : List Hv} (hne : ∀ i < h.length,(gT h i).a ≠ (gT h i).b) {w : List Step} {x y : Int} (hw : Way (webOf h).Leads x w y) (nd : (x :: w.map (·.2)).Nodup) : (w.map fun s => s.1 / 2).Nodup := by
 have h1 := way_map (R' := Along (tiesOf h)) (fun s => (s.1 / 2,s.2)) (fun _ => rfl) (fun p s l => leads_along hne l) hw
 have h2 := way_moments (ties_nd h) (fun p s z => z) h1 (by rw [List.map_map]; exact nd)
 rw [List.map_map] at h2
 exact h2
theorem hp_open {n : Nat} {h : List Hv} (hp : HP n h) (F : List Int) : ∀ i : Int,0 ≤ i → i < n → ∀ u ∈ openR h F h.length i,0 ≤ u.2 ∧ u.2 < n := fun x _ _ u hu => by
 obtain ⟨i,hi,⟨_,_,e⟩ | ⟨_,_,e⟩⟩ := (mem_open h F h.length x u).mp hu
 ·have := hp i hi; rw [e]; exact ⟨this.2.2.1,this.2.2.2⟩
 ·have := hp i hi; rw [e]; exact ⟨this.1,this.2.1⟩
theorem search (n : Nat) (n1 : 1 ≤ n) (n40 : n ≤ 40) (h : List Hv) (hp : HP n h) (hl : h.length ≤ 100) (F : List Int) (fl : F.length = h.length) (pl most : Int) (c5 c6 c7 c8 c9 c10 : Cell)
  {Nx : Env → Prop} {R : RV → Env → Prop} {B C : Env → Prop} (nx : ∀ s : Sr,Fnd n (openR h F h.length) 0 s → (∀ x ∈ sk s,Done (openR h F h.length) (sk s) x) → Nx [.sh (.int (n : Nat)),.sh (hsD h),.sh (.int pl),.sh (.int most),.ow (intL F),c5,.ow (.dct (sk s) (sv s)),c7,c8,c9,c10]) :
  Ws (sA 6 (eF f_z0 [(eFP fP_open_steps [(eV 0),(eV 1),(eV 4)]),(eC (.int 0))])) [.sh (.int (n : Nat)),.sh (hsD h),.sh (.int pl),.sh (.int most),.ow (intL F),c5,c6,c7,c8,c9,c10] Nx R B C := by
 obtain ⟨s,es,F1,dn⟩ := shortest_ok n n40 (openR h F h.length) (hp_open hp F) 0 (by omega) (by omega)
 have eo := openP_ok n (by omega) h hp hl F fl
 refine Ws.A (We.F (Was.cons (We.FP (Was.cons (We.v rfl (Was.cons (We.v rfl (Was.cons (We.w rfl (Was.nil ⟨_,_,eo,?_,rfl,rows_leaf n _⟩)))))))))) (by decide)
 rw [rows_dats]
 refine Was.cons (We.c (Was.nil (WF.box es ?_ rfl rfl rfl rfl)))
 exact WA.new (nx s F1 dn) (by first | (dsimp only [List.set]; first | done | rfl) | rfl)
theorem minI_spec : ∀ (ns : List Int) (a : Int),(minI a ns = a ∨ minI a ns ∈ ns) ∧ minI a ns ≤ a ∧ ∀ x ∈ ns,minI a ns ≤ x
 | [],a => ⟨.inl rfl,Int.le_refl _,by simp⟩
 | y :: ns,a => by
  obtain ⟨h1,h2,h3⟩ := minI_spec ns (if y < a then y else a)
  rw [minI]
  by_cases h : y < a
  ·rw [if_pos h] at h1 h2 h3 ⊢
   refine ⟨.inr ?_,by omega,fun x hx => ?_⟩
   ·rcases h1 with e | e
    ·rw [e]; simp
    ·exact List.mem_cons_of_mem _ e
   ·rcases List.mem_cons.mp hx with rfl | hx
    ·exact h2
    ·exact h3 x hx
  ·rw [if_neg h] at h1 h2 h3 ⊢
   refine ⟨h1.imp id fun e => List.mem_cons_of_mem _ e,h2,fun x hx => ?_⟩
   rcases List.mem_cons.mp hx with rfl | hx
   ·omega
   ·exact h3 x hx
theorem WB.minL {n : Int} {ns : List Int} {o : Option (List Dat)} {K : RV → Prop} (k : K (.val (.int (minI n ns)))) (ho : o = some [.lst ((n :: ns).map Dat.int)]) : WB gMinL o K := by
 refine ⟨_,_,ho,?_,k⟩
 unfold gMinL
 dsimp only
 rw [intsD_map']
def roomM (h : List Hv) (F : List Int) (m : Int) : Int := wI h (m / 2).toNat - sgn m * fA F (m / 2).toNat
theorem room_lab (h : List Hv) (F : List Int) (fl : F.length = h.length) {m : Int} (h0 : 0 ≤ m) (h1 : m / 2 < (h.length : Nat)) : f_z10 [hsD h,intL F,labD m] = some (.val (.int (roomM h F m))) := by
 have e : labD m = .tup [.int (((m / 2).toNat : Nat) : Int),.int (sgn m)] := by
  unfold labD sgn
  have : (((m / 2).toNat : Nat) : Int) = m / 2 := by omega
  rw [this]
 rw [e,room_ok h F fl (by omega) (sgn m) (by unfold sgn; split; exact .inl rfl; exact .inr rfl)]
 rfl
def pushL (F : List Int) (m d : Int) : List Int := F.set (m / 2).toNat (fA F (m / 2).toNat + sgn m * d)
theorem pushL_len (F : List Int) (m d : Int) : (pushL F m d).length = F.length := by unfold pushL; simp
theorem fA_push {F : List Int} {m d : Int} (h0 : 0 ≤ m) (h1 : m / 2 < (F.length : Nat)) : fA (pushL F m d) = push1 (fA F) m d := by
 funext i
 unfold pushL push1
 by_cases e : (i : Int) = m / 2
 ·have e' : (m / 2).toNat = i := by omega
  rw [if_pos e,e']
  unfold fA
  rw [List.getD_eq_getElem?_getD,List.getElem?_set_self (by omega)]
  rfl
 ·rw [if_neg e]
  unfold fA
  rw [List.getD_eq_getElem?_getD,List.getElem?_set_ne (by omega),← List.getD_eq_getElem?_getD]
theorem pushW_snoc (d : Int) (u : Step) : ∀ (p : List Step) (f : Nat → Int),pushW f d (p ++ [u]) = push1 (pushW f d p) u.1 d
 | [],f => rfl
 | s :: p,f => by rw [List.cons_append,pushW,pushW,pushW_snoc d u p]
theorem gIx_f' (F : List Int) {m : Int} (h0 : 0 ≤ m) (h1 : m / 2 < (F.length : Nat)) : gIx (intL F) (.int (m / 2)) = some (.val (.int (fA F (m / 2).toNat))) := by
 have : m / 2 = (((m / 2).toNat : Nat) : Int) := by omega
 rw [this,Int.toNat_natCast]
 exact gIx_f F (by omega)
theorem pushing (n : Nat) (h : List Hv) (pl most T d : Int) (F : List Int) (w : List Step) (hw : ∀ u ∈ w,0 ≤ u.1 ∧ u.1 / 2 < (F.length : Nat)) (c6 c7 c9 c10 : Cell) {Nx : Env → Prop} {R : RV → Env → Prop} {B C : Env → Prop}
  (nx : ∀ F' c9 c10,F'.length = F.length → fA F' = pushW (fA F) d w → Nx [.sh (.int (n : Nat)),.sh (hsD h),.sh (.int pl),.sh (.int most),.ow (intL F'),.sh (.int T),c6,c7,.sh (.int d),c9,c10]) :
  Ws (forD (bT [9,10]) b0_z12 (w.map fun u => labD u.1)) [.sh (.int (n : Nat)),.sh (hsD h),.sh (.int pl),.sh (.int most),.ow (intL F),.sh (.int T),c6,c7,.sh (.int d),c9,c10] Nx R B C := by
 refine Ws.inv (fun u : Step => labD u.1) _ _ w _ _ _ _ _ (fun p q ρ => ∃ (F' : List Int) (c9 c10 : Cell),ρ = [.sh (.int (n : Nat)),.sh (hsD h),.sh (.int pl),.sh (.int most),.ow (intL F'),.sh (.int T),c6,c7,.sh (.int d),c9,c10] ∧ F'.length = F.length ∧ fA F' = pushW (fA F) d p) ⟨F,_,_,rfl,rfl,rfl⟩ ?_ ?_
 ·rintro p u q ρ e ⟨F',c9,c10,rfl,l,ef⟩
  obtain ⟨u0,u1⟩ := hw u (by rw [e]; simp)
  refine Dm.bind_go rfl (by first | (dsimp only [List.set]; first | done | rfl) | rfl) ?_
  unfold b0_z12
  refine Ws.Set (We.e2 (We.e2 (We.w rfl (We.v rfl (Wg2.ix ?_ rfl rfl (gIx_f' F' u0 (by omega)))))))
  refine We.e2 (We.v rfl (We.v rfl (Wg2.mul ?_ rfl rfl (.inl (by unfold B64; split <;> omega)))))
  refine Wg2.add ?_ rfl rfl
  refine Wk.val ⟨⟨_,rfl⟩,We.v rfl (Wint.mk ⟨F'.map Dat.int,(u.1 / 2).toNat,_,rfl,?_,rfl,?_⟩)⟩
  ·rw [List.length_map]
   unfold ixN
   rw [if_pos (by omega),if_pos (by omega)]
  ·refine ⟨pushL F' u.1 d,.sh (.int (u.1 / 2)),.sh (.int (if u.1 % 2 = 0 then 1 else -1)),?_,by rw [pushL_len]; exact l,by rw [fA_push u0 (by omega),ef,pushW_snoc]⟩
   unfold pushL intL
   rw [List.map_set]
   rfl
 ·rintro ρ ⟨F',c9,c10,rfl,l,ef⟩
  exact nx F' c9 c10 l ef
theorem way_mem {R : Int → Step → Prop} : ∀ {w : List Step} {x y : Int},Way R x w y → ∀ u ∈ w,∃ p,R p u
 | [],_,_,_,u,hu => by cases hu
 | s :: w,x,y,h,u,hu => by
  rcases List.mem_cons.mp hu with rfl | hu
  ·exact ⟨x,h.1⟩
  ·exact way_mem h.2 u hu
def tupI (S : List Int) : Dat := .tup (S.map Dat.int)
def outK (n : Nat) (K : List Int) : List Int := ((List.range n).filter fun i : Nat => !decide ((i : Int) ∈ K)).map fun i : Nat => (i : Int)
structure FlR (n : Nat) (h : List Hv) (pl most T : Int) (F K : List Int) : Prop where
 fl : F.length = h.length
 FL : (webOf h).Flow (fA F) 0 pl T
 t0 : 0 ≤ T
 t1 : T ≤ most
 k0 : (0 : Int) ∈ K
 fin : T = most ∨ (pl ∉ K ∧ (webOf h).cut (fun x => decide (x ∈ K)) = T)
abbrev FE4 (n : Nat) (h : List Hv) (pl most : Int) (c4 c5 c6 c7 c8 c9 c10 : Cell) : Env := [.sh (.int (n : Nat)),.sh (hsD h),.sh (.int pl),.sh (.int most),c4,c5,c6,c7,c8,c9,c10]
theorem flow_wh (n : Nat) (n1 : 1 ≤ n) (n40 : n ≤ 40) (h : List Hv) (hp : HP n h) (hl : h.length ≤ 100) (hw0 : ∀ i < h.length,0 ≤ wI h i) (hne : ∀ i < h.length,(gT h i).a ≠ (gT h i).b) (pl : Int) (p1 : 1 ≤ pl) (p2 : pl < n) (most : Int) (m0 : 0 ≤ most) (m1 : most ≤ 1000000000000000000000000000000000000000) (F0 : List Int) (fl0 : F0.length = h.length) (FL0 : (webOf h).Flow (fA F0) 0 pl 0) (s0 : Sr) (F10 : Fnd n (openR h F0 h.length) 0 s0) (dn0 : ∀ x ∈ sk s0,Done (openR h F0 h.length) (sk s0) x) (c7 c8 c9 c10 : Cell)
  {N : Env → Prop} {R : RV → Env → Prop} {B C : Env → Prop} (nx : ∀ (T : Int) (F : List Int) (s : Sr) (c7 c8 c9 c10 : Cell),FlR n h pl most T F (sk s) → N (FE4 n h pl most (.ow (intL F)) (.sh (.int T)) (.ow (.dct (sk s) (sv s))) c7 c8 c9 c10)) :
  Ws (whD (tAnd (tV (e2 gLt (eV 5) (eV 3))) (tV (e2 gDin (eV 2) (eV 6)))) b1_z12 10000000000000000000000000000000000000000) (FE4 n h pl most (.ow (intL F0)) (.sh (.int 0)) (.ow (.dct (sk s0) (sv s0))) c7 c8 c9 c10) N R B C := by
 refine Ws.wh (fun k ρ => ∃ (F : List Int) (T : Int) (s : Sr) (c7 c8 c9 c10 : Cell),ρ = FE4 n h pl most (.ow (intL F)) (.sh (.int T)) (.ow (.dct (sk s) (sv s))) c7 c8 c9 c10 ∧ F.length = h.length ∧ (webOf h).Flow (fA F) 0 pl T ∧ 0 ≤ T ∧ T ≤ most ∧ Fnd n (openR h F h.length) 0 s ∧ (∀ x ∈ sk s,Done (openR h F h.length) (sk s) x) ∧ k = (most - T).toNat) ?_ _ most.toNat _ (by omega) ⟨_,0,s0,_,_,_,_,rfl,fl0,FL0,Int.le_refl _,m0,F10,dn0,by simp⟩
 rintro k ρ ⟨F,T,s,c7,c8,c9,c10,rfl,fl,FL,t0,t1,F1,dn,hk⟩
 have fin : (¬ T < most ∨ pl ∉ sk s) → N (FE4 n h pl most (.ow (intL F)) (.sh (.int T)) (.ow (.dct (sk s) (sv s))) c7 c8 c9 c10) := fun hend => by
  refine nx T F s c7 c8 c9 c10 ⟨fl,FL,t0,t1,F1.st,?_⟩
  rcases hend with z | z
  ·exact .inl (by omega)
  ·refine .inr ⟨z,FL.stop (decide_eq_true F1.st) (decide_eq_false z) fun p u hpS hu hr => ?_⟩
   exact decide_eq_true (dn p (of_decide_eq_true hpS) u ((open_leads h F p u).mpr ⟨hu,hr⟩))
 refine Wt.And (Wt.V (We.e2 (We.v rfl (We.v rfl (Wg2.lt (Wb.mk ?_) rfl rfl)))))
 refine Wif.dec (fun hlt => ?_) fun hge => Wif.no rfl (fin (.inl hge))
 refine Wt.V (We.e2 (We.v rfl (We.w rfl (Wg2.din (Wb.mk ?_) rfl rfl))))
 rw [look_isSome]
 refine Wif.dec (fun hb => ?_) fun hb => fin (.inr hb)
 obtain ⟨w,g1,g2⟩ : ∃ w,(pl,w) ∈ s ∧ lookD (sk s) (sv s) pl = some (rowD w) := by
  rcases look_s s pl with z | z
  ·exact z
  ·exact absurd hb z.1
 obtain ⟨⟨w1,w2⟩,w3⟩ := F1.way _ g1
 dsimp only at w1 w2 w3
 have wl : Way (webOf h).Leads 0 w pl := w1.mono fun p u z => ((open_leads h F p u).mp z).1
 have um : ∀ u ∈ w,(0 ≤ u.1 ∧ u.1 / 2 < ((F.length : Nat) : Int)) ∧ 0 < roomM h F u.1 := fun u hu => by
  obtain ⟨p,hpu⟩ := way_mem w1 u hu
  obtain ⟨⟨l0,l1,_⟩,l2⟩ := (open_leads h F p u).mp hpu
  have l1 : u.1 / 2 < ((h.length : Nat) : Int) := l1
  exact ⟨⟨l0,by rw [fl]; exact l1⟩,l2 (u.1 / 2).toNat (by omega)⟩
 have wlen : w.length ≤ 40 := by
  have a1 := nodup_len _ _ w2 w3
  have a2 := F1.len
  simp [sk] at a1
  omega
 cases w with
 | nil => exfalso; have e : (0 : Int) = pl := w1; omega
 | cons u0 w' =>
  unfold b1_z12
  refine Ws.seq (Ws.A (We.Map stepD (u0 :: w') (fun u => u.1) labD (ρ1 := FE4 n h pl most (.ow (intL F)) (.sh (.int T)) (.ow (.dct (sk s) (sv s))) c7 c8 c9 c10) ?_ ?_ rfl (by decide) (by unfold SZ; omega) fun u _ => We.e2 (We.v rfl (We.c (Wg2.ix (Wk.val ⟨rfl,rfl⟩) rfl rfl rfl)))) (by decide))
  rotate_left
  ·apply Wi.get
   exact Wi.S (We.e2 (We.w rfl (We.v rfl (Wg2.dx g2 (Wk.val ⟨_,rfl,rfl,rfl⟩) rfl rfl))))
  refine WA.new ?_ (by first | (dsimp only [List.set]; first | done | rfl) | rfl)
  refine Ws.seq (Ws.A (We.B (Was.cons (We.e2 (We.MapO labD ((u0 :: w').map fun u => u.1) (roomM h F) Dat.int ?_ rfl (by first | (dsimp only [List.set]; first | done | rfl) | rfl) rfl (by decide) (by rw [List.length_map]; unfold SZ; omega) fun m hm => ?_)))) (by decide))
  rotate_left
  ·obtain ⟨u,hu,rfl⟩ := List.mem_map.mp hm
   have := (um u hu).1
   refine We.F (Was.cons (We.v rfl (Was.cons (We.w rfl (Was.cons (We.v rfl (Was.nil (WF.val (room_lab h F fl this.1 (by rw [← fl]; exact this.2)) ?_ rfl rfl))))))))
   exact Wk.val ⟨rfl,rfl⟩
  refine We.L (Was.cons (We.e2 (We.v rfl (We.v rfl (Wg2.sub ?_ rfl rfl)))))
  refine Was.nil (WT.mk ?_ rfl rfl (by exact Nat.le_of_ble_eq_true rfl))
  refine Wg2.addI1 (xs := ((u0 :: w').map fun u => u.1).map (roomM h F)) (y := most - T) ?_ rfl rfl (by rw [List.length_map,List.length_map]; unfold SZ; omega)
  refine Was.nil (WB.minL (n := roomM h F u0.1) (ns := (w'.map fun u => u.1).map (roomM h F) ++ [most - T]) ?_ rfl)
  have ms := minI_spec ((w'.map fun u => u.1).map (roomM h F) ++ [most - T]) (roomM h F u0.1)
  generalize minI (roomM h F u0.1) ((w'.map fun u => u.1).map (roomM h F) ++ [most - T]) = d at ms
  obtain ⟨ms1,ms2,ms3⟩ := ms
  have dm : d ≤ most - T := ms3 _ (by simp)
  have dr : ∀ u ∈ u0 :: w',d ≤ roomM h F u.1 := fun u hu => by
   rcases List.mem_cons.mp hu with rfl | hu
   ·exact ms2
   ·exact ms3 _ (List.mem_append_left _ (List.mem_map.mpr ⟨u.1,List.mem_map.mpr ⟨u,hu,rfl⟩,rfl⟩))
  have d1 : 0 < d := by
   rcases ms1 with e | e
   ·rw [e]; exact (um u0 List.mem_cons_self).2
   ·rcases List.mem_append.mp e with e | e
    ·obtain ⟨m,hm,e⟩ := List.mem_map.mp e
     obtain ⟨u,hu,rfl⟩ := List.mem_map.mp hm
     rw [← e]; exact (um u (List.mem_cons_of_mem _ hu)).2
    ·rw [List.mem_singleton.mp e]; omega
  refine WA.val ?_ (by first | (dsimp only [List.set]; first | done | rfl) | rfl)
  refine Ws.seq (Ws.For (Wi.S (We.w rfl (Wk.slot ⟨_,rfl,?_⟩ rfl (by first | (dsimp only [List.set]; first | done | rfl) | rfl)))))
  rw [List.map_map]
  refine pushing n h pl most T d F (u0 :: w') (fun u hu => (um u hu).1) _ _ _ _ fun F' c9' c10' fl' ef' => ?_
  refine Ws.seq (Ws.A (We.e2 (We.v rfl (We.v rfl (Wg2.add ?_ rfl rfl)))) (by decide))
  refine WA.val ?_ (by first | (dsimp only [List.set]; first | done | rfl) | rfl)
  refine search n n1 n40 h hp hl F' (fl'.trans fl) pl most _ _ _ _ _ _ fun s' F1' dn' => ?_
  refine ⟨(most - (T + d)).toNat,by omega,F',T + d,s',_,_,_,_,rfl,fl'.trans fl,?_,by omega,by omega,F1',dn',rfl⟩
  rw [ef']
  refine FL.more (by omega) wl (once hne wl w2) fun u hu i hi => ?_
  have := dr u hu
  unfold roomM at this
  have ei : (u.1 / 2).toNat = i := by omega
  rw [ei] at this
  exact this
theorem nx_of {s : FS} {ρ : Env} {N : Env → Prop} (h : Ws s ρ N (fun _ _ => False) (fun _ => False) (fun _ => False)) : ∃ ρ',s ρ = some (.nx ρ') ∧ N ρ' := by
 obtain ⟨o,h1,h2⟩ := h
 cases o with
 | nx ρ' => exact ⟨ρ',h1,h2⟩
 | ret _ _ => exact h2.elim
 | bk _ => exact h2.elim
 | ct _ => exact h2.elim
theorem out_comp (n : Nat) (n40 : n ≤ 40) (h : List Hv) (pl most T : Int) (s : Sr) (c4 c7 c8 c9 c10 : Cell) {Q : Val → Env → Prop} (q : Q (.new (.lst ((outK n (sk s)).map Dat.int))) (FE4 n h pl most c4 (.sh (.int T)) (.ow (.dct (sk s) (sv s))) c7 c8 c9 c10)) :
  We (eComp (iR1 (eV 0)) 1 (bN 11) (tV (e2 gDnin (eV 11) (eV 6))) (eV 11)) (FE4 n h pl most c4 (.sh (.int T)) (.ow (.dct (sk s) (sv s))) c7 c8 c9 c10) Q := by
 refine We.Comp (fun i : Nat => Dat.int (0 + (i : Nat))) (List.range n) (fun i => !(lookD (sk s) (sv s) (0 + (i : Nat))).isSome) (fun i : Nat => Dat.int (0 + (i : Nat))) (ρ1 := FE4 n h pl most c4 (.sh (.int T)) (.ow (.dct (sk s) (sv s))) c7 c8 c9 c10) ?_ ?_ rfl (by decide) (by rw [List.length_range]; unfold SZ; omega) (fun i _ => ?_) fun i _ _ => ?_
 ·have e : ((List.range n).filter fun i : Nat => !(lookD (sk s) (sv s) (0 + (i : Nat))).isSome).map (fun i : Nat => Dat.int (0 + (i : Nat))) = (outK n (sk s)).map Dat.int := by
   unfold outK
   rw [List.map_map]
   have e1 : (fun i : Nat => !(lookD (sk s) (sv s) (0 + (i : Nat))).isSome) = fun i : Nat => !decide ((i : Int) ∈ sk s) := by
    funext i
    rw [look_isSome,Int.zero_add]
   rw [e1]
   apply List.map_congr_left
   intro i _
   show Dat.int (0 + (i : Nat)) = Dat.int ((i : Nat) : Int)
   rw [Int.zero_add]
  rw [e]
  exact q
 ·apply Wi.get
  refine Wi.R1 (We.v rfl (Wint.mk ⟨⟨?_,rfl⟩,by unfold BIG; omega,by unfold BIG; omega⟩))
  rw [Int.toNat_natCast]
  rfl
 ·exact Wt.V (We.e2 (We.v rfl (We.w rfl (Wg2.dnin (Wb.mk ⟨rfl,rfl⟩) rfl rfl))))
 ·exact We.v rfl (Wk.val ⟨rfl,rfl⟩)
def flP (F : List Int) : Dp := .l ((F.map Dat.int).map .s)
theorem flow_to_ok (n : Nat) (n1 : 1 ≤ n) (n40 : n ≤ 40) (h : List Hv) (hp : HP n h) (hl : h.length ≤ 100) (hw0 : ∀ i < h.length,0 ≤ wI h i) (hne : ∀ i < h.length,(gT h i).a ≠ (gT h i).b) (pl : Int) (p1 : 1 ≤ pl) (p2 : pl < n) (most : Int) (m0 : 0 ≤ most) (m1 : most ≤ 1000000000000000000000000000000000000000) :
  ∃ (T : Int) (F K : List Int),f_z12 [.int (n : Nat),hsD h,.int pl,.int most] = some (.val (.tup [.int T,intL F,tupI (outK n K)])) ∧ fP_flow_to [.int (n : Nat),hsD h,.int pl,.int most] = some (.t [.s (.int T),flP F,.s (tupI (outK n K))]) ∧ FlR n h pl most T F K := by
 have fz : fA (h.map fun _ => (0 : Int)) = fun _ => 0 := by
  funext i
  unfold fA
  rw [List.getD_eq_getElem?_getD,List.getElem?_map]
  cases h[i]? <;> rfl
 obtain ⟨ρ1,e1,rfl⟩ := nx_of (s := sA 4 (eCompM 1 1 (bN 11) tTrue (eC (.int 0)))) (ρ := FE4 n h pl most .un .un .un .un .un .un .un) (N := fun ρ => ρ = FE4 n h pl most (.ow (intL (h.map fun _ => (0 : Int)))) .un .un .un .un .un .un) (by
  refine Ws.A (We.MapS hvD h (fun _ => (0 : Int)) Dat.int (d := hsD h) ?_ rfl rfl rfl (by decide) (by unfold SZ; omega) fun t _ => We.c (Wk.val ⟨rfl,rfl⟩)) (by decide)
  exact WA.new rfl (by first | (dsimp only [List.set]; first | done | rfl) | rfl))
 obtain ⟨ρ3,e3,s,rfl,F1,dn⟩ := nx_of (s := sA 6 (eF f_z0 [(eFP fP_open_steps [(eV 0),(eV 1),(eV 4)]),(eC (.int 0))])) (ρ := FE4 n h pl most (.ow (intL (h.map fun _ => (0 : Int)))) (.sh (.int 0)) .un .un .un .un .un) (N := fun ρ => ∃ s : Sr,ρ = FE4 n h pl most (.ow (intL (h.map fun _ => (0 : Int)))) (.sh (.int 0)) (.ow (.dct (sk s) (sv s))) .un .un .un .un ∧ Fnd n (openR h (h.map fun _ => (0 : Int)) h.length) 0 s ∧ ∀ x ∈ sk s,Done (openR h (h.map fun _ => (0 : Int)) h.length) (sk s) x)
  (search n n1 n40 h hp hl (h.map fun _ => (0 : Int)) (by simp) pl most _ _ _ _ _ _ fun s F1 dn => ⟨s,rfl,F1,dn⟩)
 obtain ⟨ρ4,e4,T,F,s',c7,c8,c9,c10,rfl,FR⟩ := nx_of (N := fun ρ => ∃ (T : Int) (F : List Int) (s : Sr) (c7 c8 c9 c10 : Cell),ρ = FE4 n h pl most (.ow (intL F)) (.sh (.int T)) (.ow (.dct (sk s) (sv s))) c7 c8 c9 c10 ∧ FlR n h pl most T F (sk s))
  (flow_wh n n1 n40 h hp hl hw0 hne pl p1 p2 most m0 m1 (h.map fun _ => (0 : Int)) (by simp) (by rw [fz]; exact Fl.Web.Flow.zero _ hw0 0 pl) s F1 dn .un .un .un .un fun T F s c7 c8 c9 c10 R => ⟨T,F,s,c7,c8,c9,c10,rfl,R⟩)
 refine ⟨T,F,sk s',?_,?_,FR⟩
 ·apply Wr.eq
  unfold f_z12
  (refine Dm.Wr.fn ?_ rfl rfl; dsimp only [List.map,List.replicate,List.cons_append,List.nil_append])
  refine Ws.seq ⟨_,e1,?_⟩
  refine Ws.seq (Ws.A (We.c (WA.val ?_ (by first | (dsimp only [List.set]; first | done | rfl) | rfl))) (by decide))
  refine Ws.seq ⟨_,e3,?_⟩
  refine Ws.seq ⟨_,e4,?_⟩
  refine Ws.R (We.T (Was.cons (We.v rfl (Was.cons (We.w rfl (Was.cons (We.B (Was.cons (out_comp n n40 h pl most T s' _ c7 c8 c9 c10 ?_)))))))))
  refine Was.nil (WB.tuple ?_ rfl)
  exact Was.nil (WT.mk rfl rfl rfl (by exact Nat.le_of_ble_eq_true rfl))
 ·suffices hh : ∃ p,fP_flow_to [.int (n : Nat),hsD h,.int pl,.int most] = some p ∧ p = .t [.s (.int T),flP F,.s (tupI (outK n (sk s')))] by
   obtain ⟨p,hh,rfl⟩ := hh
   exact hh
  unfold fP_flow_to
  refine Wq.fn ?_ rfl rfl
  dsimp only [List.map,List.replicate,List.cons_append,List.nil_append]
  refine Wq.seq ⟨_,e1,?_⟩
  refine Wq.seq (Ws.A (We.c (WA.val ?_ (by first | (dsimp only [List.set]; first | done | rfl) | rfl))) (by decide))
  refine Wq.seq ⟨_,e3,?_⟩
  refine Wq.seq ⟨_,e4,?_⟩
  refine Wq.ret (Wp'.T (Wpa.cons (Wp'.val (We.v rfl ⟨rfl,Wpa.cons (Wp'.slot (ds := F.map Dat.int) (We.w rfl ⟨rfl,rfl,Wpa.cons (Wp'.val (d := tupI (outK n (sk s'))) (We.B (Was.cons (out_comp n n40 h pl most T s' .un c7 c8 c9 c10 ?_))))⟩))⟩))))
  refine Was.nil (WB.tuple ?_ rfl)
  exact ⟨rfl,Wpa.nil ⟨Nat.le_of_ble_eq_true rfl,rfl⟩⟩
abbrev Z30 : Int := 1000000000000000000000000000000
theorem emod_in (x n : Int) (h : 1 ≤ n) : 0 ≤ x % n ∧ x % n < n := ⟨Int.emod_nonneg x (by omega),Int.emod_lt_of_pos x (by omega)⟩
def at' (ns : List Int) (i : Int) : Int := ns.getD i.toNat 0
theorem ix_map (ns : List Int) (i : Int) (h0 : 0 ≤ i) (h1 : i < ns.length) : gIx (.lst (ns.map Dat.int)) (.int i) = some (.val (.int (at' ns i))) := by
 show (atI (ns.map Dat.int) i).map RV.val = _
 rw [Dm.atI_map Dat.int ns i h0 h1]
 unfold at'
 rw [List.getD_eq_getElem?_getD,List.getElem?_eq_getElem (by omega)]
 rfl
theorem ix_go {ns : List Int} {i : Int} {o p : Option Dat} {K : RV → Prop} (h0 : 0 ≤ i) (h1 : i < ns.length) (k : K (.val (.int (at' ns i)))) (ho : o = some (.lst (ns.map Dat.int))) (hp : p = some (.int i)) : Wg2 gIx o p K := ⟨_,_,_,ho,hp,ix_map ns i h0 h1,k⟩
theorem cell_at_ok (ns : List Int) (at_ : Int) (h0 : 0 ≤ at_) : ∃ c,f_z14 [.lst (ns.map Dat.int),.int at_] = some (.val (.int c)) := by
 suffices h : Wr (f_z14 [.lst (ns.map Dat.int),.int at_]) fun v => ∃ c,v = .val (.int c) by
  obtain ⟨v,h1,c,rfl⟩ := h
  exact ⟨c,h1⟩
 unfold f_z14
 (refine Dm.Wr.fn ?_ rfl rfl; dsimp only [List.map,List.replicate,List.cons_append,List.nil_append])
 repeat array_get_dec
 refine ⟨fun h => ?_,fun h => ?_⟩
 ·have h := of_decide_eq_true h
  repeat array_get_dec
  refine ix_go h0 (by simpa using h) ?_ rfl rfl
  repeat array_get_dec
  exact ⟨_,rfl⟩
 ·repeat array_get_dec
  exact ⟨_,rfl⟩
def poolD (x : Int) : Dat := .lst [.int x]
theorem pool_ok (ns : List Int) (at_ : Int) (h0 : 0 ≤ at_) : ∃ x,f_z15 [.lst (ns.map Dat.int),.int at_] = some (.new (poolD x)) := by
 obtain ⟨c,ec⟩ := cell_at_ok ns at_ h0
 suffices h : Wr (f_z15 [.lst (ns.map Dat.int),.int at_]) fun v => ∃ x,v = .new (poolD x) by
  obtain ⟨v,h1,c,rfl⟩ := h
  exact ⟨c,h1⟩
 unfold f_z15
 (refine Dm.Wr.fn ?_ rfl rfl; dsimp only [List.map,List.replicate,List.cons_append,List.nil_append])
 repeat array_get_dec
 refine WF.val ec ?_ rfl rfl
 repeat array_get_dec
 refine Wg2.pow (z := 1000000000000000000) ?_ rfl rfl (by decide) (by decide)
 repeat array_get_dec
 refine ⟨fun h => ?_,fun h => ?_⟩
 ·repeat array_get_dec
  exact ⟨_,rfl⟩
 ·repeat array_get_dec
  refine ⟨?_,by decide,by decide⟩
  refine Ws.inv (fun i : Nat => Dat.int (0 + (i : Nat))) _ _ (List.range 48) _ _ _ _ _ (fun p q ρ => ∃ (x : Int) (c4 c5 : Cell),ρ = [.sh (.lst (ns.map Dat.int)),.sh (.int at_),.sh (.int c),.sh (.int x),c4,c5]) ⟨_,_,_,rfl⟩ ?_ ?_
  ·rintro p i q ρ e ⟨x,c4,c5,rfl⟩
   have hi : i < 48 := List.mem_range.mp (by rw [e]; simp)
   refine Dm.bind_go rfl (by first | (dsimp only [List.set]; first | done | rfl) | rfl) ?_
   unfold b0_z15
   repeat array_get_dec
   ·exact ⟨_,_,_,rfl⟩
   ·exact .inl (by have := emod_in ((c % 998244353 + 89 * (0 + ((i : Nat) : Int)) * (0 + ((i : Nat) : Int)) + 7 * at_ + 1) * 48271) 2147483647 (by decide); unfold B64; omega)
   ·exact .inl (by unfold B64; omega)
  ·rintro ρ ⟨x,c4,c5,rfl⟩
   repeat array_get_dec
   exact ⟨_,rfl⟩
theorem take_ok (x m : Int) (h0 : 0 < m) (h1 : m < B200) : f_z16 [poolD x,.int m] = some (.val (.int (x % m)),poolD (x / m)) := by
 suffices h : WrM (f_z16 [poolD x,.int m]) fun v d => v = .val (.int (x % m)) ∧ d = poolD (x / m) by
  obtain ⟨v,d,h1,rfl,rfl⟩ := h
  exact h1
 unfold f_z16
 refine WrM.fn ?_ rfl rfl
 dsimp only [List.map,List.replicate,List.cons_append,List.nil_append]
 unfold poolD
 repeat array_get_dec
 ·refine Ws.Set ?_
  repeat array_get_dec
  ·refine ⟨_,0,_,rfl,rfl,rfl,?_⟩
   repeat array_get_dec
   exact ⟨_,rfl,rfl,rfl⟩
  ·exact ⟨h0,h1⟩
 ·exact h0
def Wtk (j : Nat) (m : Int) (ρ1 : Env) (Q : Val → Env → Prop) : Prop := ∃ x ρ3,Q (.val (.int (x % m))) ρ3 ∧ ρ1[j]? = some (.ow (poolD x)) ∧ ρ1.set j (.ow (poolD (x / m))) = ρ3 ∧ 0 < m ∧ m < B200
theorem take_go {j : Nat} {x m : Int} {ρ1 ρ3 : Env} {Q : Val → Env → Prop} (q : Q (.val (.int (x % m))) ρ3) (h2 : ρ1[j]? = some (.ow (poolD x))) (hn : ρ1.set j (.ow (poolD (x / m))) = ρ3) (h0 : 0 < m) (h1 : m < B200) : Wtk j m ρ1 Q := ⟨_,_,q,h2,hn,h0,h1⟩
theorem We.take {j : Nat} {a : FE} {ρ : Env} {d0 : Dat} {Q : Val → Env → Prop} (h : We a ρ fun v ρ1 => Wint v fun m => Wtk j m ρ1 Q) (h0 : ρ[j]? = some (.ow d0)) : We (eFm f_z16 j [a]) ρ Q := by
 refine We.Fm (Was.cons ?_) h0
 obtain ⟨v,ρ1,e1,m,rfl,x,ρ3,q,e2,e3,m0,m1⟩ := h
 exact ⟨_,_,e1,Was.nil (WFm.any (take_ok x m m0 m1) q e2 rfl e3)⟩
def HW (n : Int) (h : List Hv) : Prop := ∀ t ∈ h,0 ≤ t.a ∧ t.a < t.b ∧ t.b < n ∧ 1 ≤ t.w ∧ t.w ≤ Z30
theorem other_end (n a t : Int) (hn : 2 ≤ n) (a0 : 0 ≤ a) (a1 : a < n) (t0 : 0 ≤ t) (t1 : t < n - 1) : 0 ≤ (a + 1 + t) % n ∧ (a + 1 + t) % n < n ∧ (a + 1 + t) % n ≠ a := by
 have h := emod_in (a + 1 + t) n (by omega)
 refine ⟨h.1,h.2,?_⟩
 by_cases q : a + 1 + t < n
 ·rw [Int.emod_eq_of_lt (by omega) q]; omega
 ·have e : (a + 1 + t) % n = (a + 1 + t - n) % n := by rw [Int.sub_emod_right]
  rw [e,Int.emod_eq_of_lt (by omega) (by omega)]; omega
theorem ix4 (a b c d : Int) (x : Int) (h0 : 0 ≤ x) (h : x < 4) : gIx (.lst [.int a,.int b,.int c,.int d]) (.int x) = some (.val (.int (if x = 0 then a else if x = 1 then b else if x = 2 then c else d))) := by
 have : x = 0 ∨ x = 1 ∨ x = 2 ∨ x = 3 := by omega
 rcases this with rfl | rfl | rfl | rfl <;> rfl
theorem heavy_ok (x n most : Int) (n1 : 1 ≤ n) (n10 : n ≤ 10) (m0 : 0 ≤ most) (m40 : most ≤ 40) :
  ∃ (h : List Hv) (x' : Int),f_z17 [poolD x,.int n,.int most] = some (.new (hsD h),poolD x') ∧ HW n h ∧ (h.length : Int) ≤ most := by
 suffices hh : WrM (f_z17 [poolD x,.int n,.int most]) fun v d => ∃ (h : List Hv) (x' : Int),v = .new (hsD h) ∧ d = poolD x' ∧ HW n h ∧ (h.length : Int) ≤ most by
  obtain ⟨v,d,h1,h,x',rfl,rfl,h2⟩ := hh
  exact ⟨h,x',h1,h2⟩
 unfold f_z17
 refine WrM.fn ?_ rfl rfl
 dsimp only [List.map,List.replicate,List.cons_append,List.nil_append]
 repeat array_get_dec
 refine We.take ?_ rfl
 repeat array_get_dec
 refine take_go ?_ rfl (by first | (dsimp only [List.set]; first | done | rfl) | rfl) (by decide) (by decide)
 have hs := emod_in x 4 (by decide)
 generalize x % 4 = sort at hs
 generalize x / 4 = x
 repeat array_get_dec
 refine ⟨fun h => ?_,fun h => ?_⟩
 ·repeat array_get_dec
  exact ⟨_,rfl,[],_,rfl,rfl,(fun t ht => by cases ht),by simpa using m0⟩
 ·have n2 := of_decide_eq_false h
  repeat array_get_dec
  refine We.take ?_ rfl
  repeat array_get_dec
  refine take_go ?_ rfl (by first | (dsimp only [List.set]; first | done | rfl) | rfl) (by omega) (by unfold B200; omega)
  have hc := emod_in x (most + 1) (by omega)
  generalize x % (most + 1) = cnt at hc
  generalize x / (most + 1) = x
  refine Wint.mk ⟨?_,by unfold BIG; omega⟩
  refine Ws.inv (fun i : Nat => Dat.int (0 + (i : Nat))) _ _ (List.range cnt.toNat) _ _ _ _ _ (fun p q ρ => ∃ (h : List Hv) (x : Int) (c5 c6 c7 c8 : Cell),ρ = [.ow (poolD x),.sh (.int n),.sh (.int most),.sh (.int sort),.ow (hsD h),c5,c6,c7,c8] ∧ HW n h ∧ h.length = p.length) ⟨[],_,_,_,_,_,rfl,(fun t ht => by cases ht),rfl⟩ ?_ ?_
  ·rintro p i q ρ e ⟨h,x,c5,c6,c7,c8,rfl,hw,hl⟩
   have lp : p.length < 100 := by
    have : (List.range cnt.toNat).length = p.length + (q.length + 1) := by rw [e]; simp
    rw [List.length_range] at this; omega
   refine Dm.bind_go rfl (by first | (dsimp only [List.set]; first | done | rfl) | rfl) ?_
   unfold b0_z17
   repeat array_get_dec
   refine We.take ?_ rfl
   repeat array_get_dec
   refine take_go ?_ rfl (by first | (dsimp only [List.set]; first | done | rfl) | rfl) (by omega) (by unfold B200; omega)
   have ha := emod_in x n n1
   generalize x % n = a at ha
   generalize x / n = x
   repeat array_get_dec
   refine We.take ?_ rfl
   repeat array_get_dec
   refine take_go ?_ rfl (by first | (dsimp only [List.set]; first | done | rfl) | rfl) (by omega) (by unfold B200; omega)
   have ht := emod_in x (n - 1) (by omega)
   have hb := other_end n a (x % (n - 1)) (by omega) ha.1 ha.2 ht.1 ht.2
   generalize x / (n - 1) = x2
   refine Wg2.add ?_ rfl rfl
   refine We.v rfl (Wg2.mod ?_ rfl rfl (by omega))
   generalize (a + 1 + x % (n - 1)) % n = b at hb
   refine WA.val ?_ (by first | (dsimp only [List.set]; first | done | rfl) | rfl)
   refine Ws.cut (fun ρ => ∃ (b x : Int),(0 ≤ b ∧ b < n ∧ b ≠ a) ∧ ρ = [.ow (poolD x),.sh (.int n),.sh (.int most),.sh (.int sort),.ow (hsD h),.sh (.int (0 + (i : Nat))),.sh (.int a),.sh (.int b),c8]) ?_ ?_
   ·repeat array_get_dec
    refine ⟨fun hc => ?_,fun hc => ?_⟩
    ·repeat array_get_dec
     refine We.take ?_ rfl
     repeat array_get_dec
     refine take_go ?_ rfl (by first | (dsimp only [List.set]; first | done | rfl) | rfl) (by decide) (by decide)
     repeat array_get_dec
     refine ⟨fun hc => ?_,fun hc => ?_⟩
     ·have hb2 := other_end n a 0 (by omega) ha.1 ha.2 (by decide) (by omega)
      rw [Int.add_zero] at hb2
      repeat array_get_dec
      ·exact ⟨_,_,hb2,rfl⟩
      ·omega
     ·repeat array_get_dec
      exact ⟨_,_,hb,rfl⟩
    ·repeat array_get_dec
     exact ⟨_,_,hb,rfl⟩
   ·rintro ρ ⟨b,x,hb,rfl⟩
    repeat array_get_dec
    have i4 := ix4 1 3 9 1000 sort hs.1 hs.2
    have hM : ∃ M : Int,gIx (.lst [.int 1,.int 3,.int 9,.int 1000]) (.int sort) = some (.val (.int M)) ∧ 1 ≤ M ∧ M ≤ 1000 ∧ (sort ≠ 3 → M ≤ 9) := by
     refine ⟨_,i4,?_,?_,?_⟩
     ·split <;> (try split) <;> (try split) <;> omega
     ·split <;> (try split) <;> (try split) <;> omega
     ·intro hs3; split <;> (try split) <;> (try split) <;> omega
    obtain ⟨M,eM,M1,M2,M3⟩ := hM
    refine We.take ?_ rfl
    repeat array_get_dec
    refine Wg2.ix ?_ rfl rfl eM
    repeat array_get_dec
    refine take_go ?_ rfl (by first | (dsimp only [List.set]; first | done | rfl) | rfl) (by omega) (by unfold B200; omega)
    have hw1 := emod_in x M M1
    generalize x % M = w at hw1
    generalize x / M = x
    refine Wg2.add ?_ rfl rfl
    refine WA.val ?_ (by first | (dsimp only [List.set]; first | done | rfl) | rfl)
    refine Ws.cut (fun ρ => ∃ (w x : Int),(1 ≤ w ∧ w ≤ Z30) ∧ ρ = [.ow (poolD x),.sh (.int n),.sh (.int most),.sh (.int sort),.ow (hsD h),.sh (.int (0 + (i : Nat))),.sh (.int a),.sh (.int b),.sh (.int w)]) ?_ ?_
    ·repeat array_get_dec
     refine ⟨fun hc => ?_,fun hc => ?_⟩
     ·repeat array_get_dec
      refine Wg2.pow (z := 1000000000000000000000000000) ?_ rfl rfl (by decide) (by decide)
      repeat array_get_dec
      ·refine We.take ?_ rfl
       repeat array_get_dec
       refine take_go ?_ rfl (by first | (dsimp only [List.set]; first | done | rfl) | rfl) (by decide) (by decide)
       have h3 := emod_in x 3 (by decide)
       repeat array_get_dec
       exact ⟨_,_,by unfold Z30; omega,rfl⟩
      ·exact .inl (by unfold B64; omega)
     ·have hc := of_decide_eq_false hc
      have := M3 hc
      repeat array_get_dec
      exact ⟨_,_,by unfold Z30; omega,rfl⟩
    ·rintro ρ ⟨w,x,hw2,rfl⟩
     repeat array_get_dec
     ·by_cases q : b < a
      ·refine ⟨h ++ [⟨b,a,w⟩],x,.sh (.int (0 + (i : Nat))),.sh (.int a),.sh (.int b),.sh (.int w),?_,?_,by simp [hl]⟩
       ·rw [if_pos q,if_neg (by omega)]
        unfold hsD
        rw [List.map_append]
        rfl
       ·intro t ht
        rcases List.mem_append.mp ht with ht | ht
        ·exact hw t ht
        ·rw [List.mem_singleton] at ht; subst ht; exact ⟨hb.1,q,ha.2,hw2.1,hw2.2⟩
      ·refine ⟨h ++ [⟨a,b,w⟩],x,.sh (.int (0 + (i : Nat))),.sh (.int a),.sh (.int b),.sh (.int w),?_,?_,by simp [hl]⟩
       ·rw [if_neg q,if_pos (by omega)]
        unfold hsD
        rw [List.map_append]
        rfl
       ·intro t ht
        rcases List.mem_append.mp ht with ht | ht
        ·exact hw t ht
        ·rw [List.mem_singleton] at ht; subst ht; exact ⟨ha.1,by show a < b; omega,hb.2.1,hw2.1,hw2.2⟩
     ·simp [SZ]; omega
  ·rintro ρ ⟨h,x,c5,c6,c7,c8,rfl,hw,hl⟩
   repeat array_get_dec
   exact ⟨_,rfl,h,x,rfl,rfl,hw,by rw [hl,List.length_range]; omega⟩
theorem ne_int (i j : Int) : gNe (.int i) (.int j) = vB (!decide (i = j)) := by
 have : (i == j) = decide (i = j) := by by_cases h : i = j <;> simp [h]
 show vB (!(i == j)) = _
 rw [this]
theorem wsumI (p : Hv → Bool) : ∀ h : List Hv,sumI ((h.filter p).map (·.w)) = wsum p h
 | [] => rfl
 | t :: h => by
  rw [List.filter_cons,wsum,← wsumI p h]
  by_cases q : p t = true
  ·rw [if_pos q,if_pos q]; rfl
  ·rw [if_neg q,if_neg q,Int.zero_add]
theorem whole_ok (i : Int) : f_z1 [.int i] = some (.val (.bl true)) := by
 unfold f_z1
 simp (config := { decide := true }) only [gIsi,Dm.fn,Dm.sSeq,Dm.sA,Dm.sR,Dm.sE,Dm.sIf,Dm.sNx,Dm.sApp,Dm.sSet,Dm.sFor,Dm.e1,Dm.e2,Dm.eB,Dm.eAs,Dm.eC,Dm.eV,Dm.eTup,Dm.eLst,Dm.eF,Dm.eIf,Dm.eAnd,Dm.eNot,Dm.tV,Dm.tNot,Dm.tAnd,Dm.tOr,Dm.tTrue,Dm.pk,Dm.tk,Dm.pks,Dm.tks,Dm.RV.toVal,Dm.RV.dat,Dm.isBox,Dm.gAdd,Dm.gSub,Dm.gMul,Dm.gDiv,Dm.gMod,Dm.gPow,Dm.gLt,Dm.gLe,Dm.gGt,Dm.gGe,Dm.gNeg,Dm.gLen,Dm.gMin2,Dm.gMax2,Dm.gList,Dm.gTuple,Dm.isI,Dm.isB,Dm.isL,Dm.isT,Dm.vB,Dm.vI,List.map_cons,List.map_nil,List.length_cons,List.length_nil,List.nil_append,List.cons_append,List.replicate,List.getElem?_cons_zero,List.getElem?_cons_succ,List.getElem?_nil,List.set_cons_zero,List.set_cons_succ,List.set_nil,if_true,if_false,Nat.reduceAdd,Dm.iR1,Dm.iR2,Dm.iS,Dm.bN,Dm.bT,Dm.sets,reduceIte,Nat.zero_add,Dm.eChain,Option.map_some,Option.map_none,Bool.not_true,Bool.not_false,true_or,or_true,true_and,and_true,decide_true,decide_false,false_or,or_false,false_and,and_false]
theorem within_ok (i lo hi : Int) (h1 : lo ≤ i) (h2 : i ≤ hi) : f_z2 [.int i,.int lo,.int hi] = some (.val (.bl true)) := by
 unfold f_z2
 have h1' : (lo ≤ i) = True := by simp [h1]
 have h2' : (i ≤ hi) = True := by simp [h2]
 simp (config := { decide := true }) only [whole_ok,h1',h2',Dm.fn,Dm.sSeq,Dm.sA,Dm.sR,Dm.sE,Dm.sIf,Dm.sNx,Dm.sApp,Dm.sSet,Dm.sFor,Dm.e1,Dm.e2,Dm.eB,Dm.eAs,Dm.eC,Dm.eV,Dm.eTup,Dm.eLst,Dm.eF,Dm.eIf,Dm.eAnd,Dm.eNot,Dm.tV,Dm.tNot,Dm.tAnd,Dm.tOr,Dm.tTrue,Dm.pk,Dm.tk,Dm.pks,Dm.tks,Dm.RV.toVal,Dm.RV.dat,Dm.isBox,Dm.gAdd,Dm.gSub,Dm.gMul,Dm.gDiv,Dm.gMod,Dm.gPow,Dm.gLt,Dm.gLe,Dm.gGt,Dm.gGe,Dm.gNeg,Dm.gLen,Dm.gMin2,Dm.gMax2,Dm.gList,Dm.gTuple,Dm.isI,Dm.isB,Dm.isL,Dm.isT,Dm.vB,Dm.vI,List.map_cons,List.map_nil,List.length_cons,List.length_nil,List.nil_append,List.cons_append,List.replicate,List.getElem?_cons_zero,List.getElem?_cons_succ,List.getElem?_nil,List.set_cons_zero,List.set_cons_succ,List.set_nil,if_true,if_false,Nat.reduceAdd,Dm.iR1,Dm.iR2,Dm.iS,Dm.bN,Dm.bT,Dm.sets,reduceIte,Nat.zero_add,Dm.eChain,Option.map_some,Option.map_none,Bool.not_true,Bool.not_false,true_or,or_true,true_and,and_true,decide_true,decide_false,false_or,or_false,false_and,and_false]
theorem place_ok (n i : Int) (h0 : 0 ≤ i) (h1 : i < n) : f_z4 [.int n,.int i] = some (.val (.bl true)) := by
 unfold f_z4
 simp (config := { decide := true }) only [within_ok i 0 (n - 1) h0 (by omega),Dm.fn,Dm.sSeq,Dm.sA,Dm.sR,Dm.sE,Dm.sIf,Dm.sNx,Dm.sApp,Dm.sSet,Dm.sFor,Dm.e1,Dm.e2,Dm.eB,Dm.eAs,Dm.eC,Dm.eV,Dm.eTup,Dm.eLst,Dm.eF,Dm.eIf,Dm.eAnd,Dm.eNot,Dm.tV,Dm.tNot,Dm.tAnd,Dm.tOr,Dm.tTrue,Dm.pk,Dm.tk,Dm.pks,Dm.tks,Dm.RV.toVal,Dm.RV.dat,Dm.isBox,Dm.gAdd,Dm.gSub,Dm.gMul,Dm.gDiv,Dm.gMod,Dm.gPow,Dm.gLt,Dm.gLe,Dm.gGt,Dm.gGe,Dm.gNeg,Dm.gLen,Dm.gMin2,Dm.gMax2,Dm.gList,Dm.gTuple,Dm.isI,Dm.isB,Dm.isL,Dm.isT,Dm.vB,Dm.vI,List.map_cons,List.map_nil,List.length_cons,List.length_nil,List.nil_append,List.cons_append,List.replicate,List.getElem?_cons_zero,List.getElem?_cons_succ,List.getElem?_nil,List.set_cons_zero,List.set_cons_succ,List.set_nil,if_true,if_false,Nat.reduceAdd,Dm.iR1,Dm.iR2,Dm.iS,Dm.bN,Dm.bT,Dm.sets,reduceIte,Nat.zero_add,Dm.eChain,Option.map_some,Option.map_none,Bool.not_true,Bool.not_false,true_or,or_true,true_and,and_true,decide_true,decide_false,false_or,or_false,false_and,and_false]
theorem pair_ok (n a b : Int) (a0 : 0 ≤ a) (a1 : a < n) (b0 : 0 ≤ b) (b1 : b < n) (h : a ≠ b) : f_z5 [.int n,.int a,.int b] = some (.val (.bl true)) := by
 unfold f_z5
 simp (config := { decide := true }) only [place_ok n a a0 a1,place_ok n b b0 b1,ne_int,h,Dm.fn,Dm.sSeq,Dm.sA,Dm.sR,Dm.sE,Dm.sIf,Dm.sNx,Dm.sApp,Dm.sSet,Dm.sFor,Dm.e1,Dm.e2,Dm.eB,Dm.eAs,Dm.eC,Dm.eV,Dm.eTup,Dm.eLst,Dm.eF,Dm.eIf,Dm.eAnd,Dm.eNot,Dm.tV,Dm.tNot,Dm.tAnd,Dm.tOr,Dm.tTrue,Dm.pk,Dm.tk,Dm.pks,Dm.tks,Dm.RV.toVal,Dm.RV.dat,Dm.isBox,Dm.gAdd,Dm.gSub,Dm.gMul,Dm.gDiv,Dm.gMod,Dm.gPow,Dm.gLt,Dm.gLe,Dm.gGt,Dm.gGe,Dm.gNeg,Dm.gLen,Dm.gMin2,Dm.gMax2,Dm.gList,Dm.gTuple,Dm.isI,Dm.isB,Dm.isL,Dm.isT,Dm.vB,Dm.vI,List.map_cons,List.map_nil,List.length_cons,List.length_nil,List.nil_append,List.cons_append,List.replicate,List.getElem?_cons_zero,List.getElem?_cons_succ,List.getElem?_nil,List.set_cons_zero,List.set_cons_succ,List.set_nil,if_true,if_false,Nat.reduceAdd,Dm.iR1,Dm.iR2,Dm.iS,Dm.bN,Dm.bT,Dm.sets,reduceIte,Nat.zero_add,Dm.eChain,Option.map_some,Option.map_none,Bool.not_true,Bool.not_false,true_or,or_true,true_and,and_true,decide_true,decide_false,false_or,or_false,false_and,and_false]
theorem heavy_tie_ok (n : Int) (t : Hv) (h : 0 ≤ t.a ∧ t.a < t.b ∧ t.b < n ∧ 1 ≤ t.w ∧ t.w ≤ Z30) : f_z6 [.int n,hvD t] = some (.val (.bl true)) := by
 obtain ⟨a0,ab,b1,w1,w2⟩ := h
 apply Wr.eq
 unfold f_z6 hvD
 (refine Dm.Wr.fn ?_ rfl rfl; dsimp only [List.map,List.replicate,List.cons_append,List.nil_append])
 repeat array_get_dec
 refine Wif.no rfl ?_
 repeat array_get_dec
 refine Wif.no rfl ?_
 repeat array_get_dec
 refine WF.val (pair_ok n t.a t.b a0 (by omega) (by omega) b1 (by omega)) ?_ rfl rfl
 repeat array_get_dec
 refine Wif.yes (decide_eq_true ab) ?_
 repeat array_get_dec
 refine Wg2.pow (z := Z30) ?_ rfl rfl (by decide) (by decide)
 repeat array_get_dec
 refine WF.val (within_ok t.w 1 Z30 w1 w2) ?_ rfl rfl
 repeat array_get_dec
 rfl
theorem look_places_ok (n : Int) (n1 : 1 ≤ n) (n10 : n ≤ 10) : f_z7 [.int n] = some (.val .non) := by
 have e : f_z3 [.int n] = some (.val (.bl true)) := by
  unfold f_z3
  simp (config := { decide := true }) only [within_ok n 1 10 n1 n10,Dm.fn,Dm.sSeq,Dm.sA,Dm.sR,Dm.sE,Dm.sIf,Dm.sNx,Dm.sApp,Dm.sSet,Dm.sFor,Dm.e1,Dm.e2,Dm.eB,Dm.eAs,Dm.eC,Dm.eV,Dm.eTup,Dm.eLst,Dm.eF,Dm.eIf,Dm.eAnd,Dm.eNot,Dm.tV,Dm.tNot,Dm.tAnd,Dm.tOr,Dm.tTrue,Dm.pk,Dm.tk,Dm.pks,Dm.tks,Dm.RV.toVal,Dm.RV.dat,Dm.isBox,Dm.gAdd,Dm.gSub,Dm.gMul,Dm.gDiv,Dm.gMod,Dm.gPow,Dm.gLt,Dm.gLe,Dm.gGt,Dm.gGe,Dm.gNeg,Dm.gLen,Dm.gMin2,Dm.gMax2,Dm.gList,Dm.gTuple,Dm.isI,Dm.isB,Dm.isL,Dm.isT,Dm.vB,Dm.vI,List.map_cons,List.map_nil,List.length_cons,List.length_nil,List.nil_append,List.cons_append,List.replicate,List.getElem?_cons_zero,List.getElem?_cons_succ,List.getElem?_nil,List.set_cons_zero,List.set_cons_succ,List.set_nil,if_true,if_false,Nat.reduceAdd,Dm.iR1,Dm.iR2,Dm.iS,Dm.bN,Dm.bT,Dm.sets,reduceIte,Nat.zero_add,Dm.eChain,Option.map_some,Option.map_none,Bool.not_true,Bool.not_false,true_or,or_true,true_and,and_true,decide_true,decide_false,false_or,or_false,false_and,and_false]
 unfold f_z7
 simp (config := { decide := true }) only [e,Dm.fn,Dm.sSeq,Dm.sA,Dm.sR,Dm.sE,Dm.sIf,Dm.sNx,Dm.sApp,Dm.sSet,Dm.sFor,Dm.e1,Dm.e2,Dm.eB,Dm.eAs,Dm.eC,Dm.eV,Dm.eTup,Dm.eLst,Dm.eF,Dm.eIf,Dm.eAnd,Dm.eNot,Dm.tV,Dm.tNot,Dm.tAnd,Dm.tOr,Dm.tTrue,Dm.pk,Dm.tk,Dm.pks,Dm.tks,Dm.RV.toVal,Dm.RV.dat,Dm.isBox,Dm.gAdd,Dm.gSub,Dm.gMul,Dm.gDiv,Dm.gMod,Dm.gPow,Dm.gLt,Dm.gLe,Dm.gGt,Dm.gGe,Dm.gNeg,Dm.gLen,Dm.gMin2,Dm.gMax2,Dm.gList,Dm.gTuple,Dm.isI,Dm.isB,Dm.isL,Dm.isT,Dm.vB,Dm.vI,List.map_cons,List.map_nil,List.length_cons,List.length_nil,List.nil_append,List.cons_append,List.replicate,List.getElem?_cons_zero,List.getElem?_cons_succ,List.getElem?_nil,List.set_cons_zero,List.set_cons_succ,List.set_nil,if_true,if_false,Nat.reduceAdd,Dm.iR1,Dm.iR2,Dm.iS,Dm.bN,Dm.bT,Dm.sets,reduceIte,Nat.zero_add,Dm.eChain,Option.map_some,Option.map_none,Bool.not_true,Bool.not_false,true_or,or_true,true_and,and_true,decide_true,decide_false,false_or,or_false,false_and,and_false]
theorem look_ok (n : Int) (n1 : 1 ≤ n) (n10 : n ≤ 10) (h : List Hv) (hw : HW n h) (hl : h.length ≤ 40) : f_z8 [.int n,hsD h] = some (.val .non) := by
 apply Wr.eq
 unfold f_z8 hsD
 (refine Dm.Wr.fn ?_ rfl rfl; dsimp only [List.map,List.replicate,List.cons_append,List.nil_append])
 repeat array_get_dec
 refine WF.val (look_places_ok n n1 n10) ?_ rfl rfl
 refine Ws.seq (Ws.If (Wt.Or (Wt.Not (Wt.V (We.e1 (We.v rfl (Wg1.mk ?_ rfl rfl)))))))
 refine Wb.mk ?_
 refine Wif.no rfl ?_
 refine Wt.V (We.e2 (We.B (Was.cons (We.v rfl (Was.nil (WB.lenI (enc := hvD) (xs := h) ?_ rfl))))))
 refine We.c (Wg2.gt (Wb.mk ?_) rfl rfl)
 refine Wif.no (decide_eq_false (by omega)) ?_
 repeat array_get_dec
 refine We.CompS hvD h (fun _ => true) (fun _ => Dat.bl true) ?_ rfl rfl rfl (by decide) (by simp [SZ]; omega) (fun x _ => Wt.T ⟨rfl,rfl⟩) (fun x hx _ => ?_)
 ·repeat array_get_dec
  refine WB.all (fun _ => true) ?_ (by rw [List.filter_eq_self.mpr (fun _ _ => rfl)]; rfl)
  repeat array_get_dec
  refine Wif.no (by simp) ?_
  repeat array_get_dec
  rfl
 ·repeat array_get_dec
  refine WF.val (heavy_tie_ok n x (hw x hx)) ?_ rfl rfl
  repeat array_get_dec
  exact ⟨rfl,rfl⟩
def cutS (h : List Hv) (S : Int → Bool) : Int := wsum (fun t => S t.a != S t.b) h
theorem sm_left (F : Nat → Int) : ∀ n,sm F (n + 1) = F 0 + sm (fun i => F (i + 1)) n
 | 0 => by simp [sm]
 | n + 1 => by rw [sm,sm_left F n,sm]; omega
theorem cutS_sm (S : Int → Bool) : ∀ h : List Hv,sm (fun i => if S (gT h i).a != S (gT h i).b then wI h i else 0) h.length = cutS h S
 | [] => rfl
 | t :: h => by
  rw [List.length_cons,sm_left,cutS,wsum]
  congr 1
  exact cutS_sm S h
theorem cutS_web (h : List Hv) (S : Int → Bool) : (webOf h).cut S = cutS h S := cutS_sm S h
theorem cutS_not (h : List Hv) (S : Int → Bool) : cutS h (fun x => !S x) = cutS h S := by
 rw [← cutS_web,← cutS_web,Web.cut_not]
theorem cutS_congr {n : Nat} {h : List Hv} (hw : HW n h) {S S' : Int → Bool} (e : ∀ x : Int,0 ≤ x → x < n → S x = S' x) : cutS h S = cutS h S' := wsum_congr fun t ht => by
 obtain ⟨h1,h2,h3,_⟩ := hw t ht
 rw [e t.a h1 (by omega),e t.b (by omega) h3]
theorem wsum_top (p : Hv → Bool) {M : Int} (m0 : 0 ≤ M) : ∀ h : List Hv,(∀ t ∈ h,t.w ≤ M) → wsum p h ≤ h.length * M
 | [],_ => by simp [wsum]
 | t :: h,e => by
  have h1 := wsum_top p m0 h fun u hu => e u (List.mem_cons_of_mem _ hu)
  have h2 := e t List.mem_cons_self
  rw [wsum,List.length_cons]
  have : ((h.length + 1 : Nat) : Int) * M = h.length * M + M := by
   rw [Int.natCast_add,Int.add_mul]; simp
  rw [this]
  split <;> omega
theorem HW.nn {n : Nat} {h : List Hv} (hw : HW n h) (S : Int → Bool) : 0 ≤ cutS h S := wsum_nn fun t ht => by have := hw t ht; omega
theorem HW.top {n : Nat} {h : List Hv} (hw : HW n h) (hl : h.length ≤ 40) (S : Int → Bool) : cutS h S ≤ 1000000000000000000000000000000000000000 := by
 have h1 := wsum_top (fun t => S t.a != S t.b) (M := Z30) (by decide) h fun t ht => (hw t ht).2.2.2.2
 have h2 : ((h.length : Nat) : Int) * Z30 ≤ 40 * Z30 := Int.mul_le_mul_of_nonneg_right (by omega) (by decide)
 unfold cutS
 refine Int.le_trans h1 (Int.le_trans h2 (by decide))
theorem side_weight_ok (h : List Hv) (hl : h.length ≤ 100) (S : List Int) : f_z9 [hsD h,tupI S] = some (.val (.int (cutS h fun q => decide (q ∈ S)))) := by
 apply Wr.eq
 unfold f_z9
 (refine Dm.Wr.fn ?_ rfl rfl; dsimp only [List.map,List.replicate,List.cons_append,List.nil_append])
 refine Ws.R (We.B (Was.cons ?_))
 refine We.SelS3 hvD h (fun t => decide (t.a ∈ S) != decide (t.b ∈ S)) (·.w) Dat.int (fun t => .int t.a) (fun t => .int t.b) (fun t => .int t.w) (fun _ => rfl) (d := hsD h) ?_ rfl rfl rfl (by decide) (by unfold SZ; omega) (fun u _ => ?_) fun u _ _ => ?_
 ·refine Was.nil (WB.sumL ?_ rfl)
  rw [wsumI]
  rfl
 ·refine Wt.V (We.e2 (We.e2 (We.v rfl (We.v rfl (Wg2.inT (xs := S) ?_ rfl rfl)))))
  refine We.e2 (We.v rfl (We.v rfl (Wg2.inT (xs := S) ?_ rfl rfl)))
  exact Wg2.neb (Wb.mk ⟨rfl,rfl⟩) rfl rfl
 ·exact We.v rfl (Wk.val ⟨rfl,rfl⟩)
theorem law_weight_ok (h : List Hv) (hl : h.length ≤ 100) (S : List Int) : f_z19 [hsD h,tupI S] = some (.val (.int (cutS h fun q => decide (q ∈ S)))) := side_weight_ok h hl S
theorem range_at' {n k : Nat} {p q : List Nat} (e : List.range n = p ++ k :: q) : k = p.length ∧ k < n := by
 have h1 : (List.range n)[p.length]? = some k := by rw [e,List.getElem?_append_right (Nat.le_refl _),Nat.sub_self]; rfl
 have h2 : p.length < n := by
  have : (List.range n).length = p.length + (q.length + 1) := by rw [e]; simp
  rw [List.length_range] at this; omega
 rw [List.getElem?_range h2] at h1
 injection h1 with h1
 omega
theorem ups_enc1 (n : Nat) : ups 1 n = (List.range n).map fun i : Nat => Dat.int (1 + ((i : Nat) : Int)) := rfl
structure SdR (n : Nat) (h : List Hv) (T : Int) (S : List Int) : Prop where
 up : S.Pairwise (· < ·)
 inn : ∀ x ∈ S,1 ≤ x ∧ x < n
 ne : S ≠ []
 wt : cutS h (fun q => decide (q ∈ S)) = T
theorem mem_outK (n : Nat) (K : List Int) (x : Int) : x ∈ outK n K ↔ 0 ≤ x ∧ x < n ∧ x ∉ K := by
 unfold outK
 rw [List.mem_map]
 constructor
 ·rintro ⟨i,hi,rfl⟩
  obtain ⟨h1,h2⟩ := List.mem_filter.mp hi
  have := List.mem_range.mp h1
  exact ⟨by omega,by omega,by simpa using h2⟩
 ·rintro ⟨h0,h1,h2⟩
  refine ⟨x.toNat,List.mem_filter.mpr ⟨List.mem_range.mpr (by omega),?_⟩,by omega⟩
  rw [show ((x.toNat : Nat) : Int) = x by omega]
  simpa using h2
theorem outK_up (n : Nat) (K : List Int) : (outK n K).Pairwise (· < ·) := by
 unfold outK
 rw [List.pairwise_map]
 exact (List.Pairwise.filter _ (List.pairwise_lt_range)).imp fun h => by omega
theorem outK_side {n : Nat} {h : List Hv} (hw : HW n h) {pl T : Int} {K : List Int} (k0 : (0 : Int) ∈ K) (p1 : 1 ≤ pl) (p2 : pl < n) (hk : pl ∉ K) (hc : (webOf h).cut (fun x => decide (x ∈ K)) = T) : SdR n h T (outK n K) := by
 refine ⟨outK_up n K,fun x hx => ?_,fun z => ?_,?_⟩
 ·obtain ⟨h0,h1,h2⟩ := (mem_outK n K x).mp hx
  refine ⟨?_,h1⟩
  by_cases z : x = 0
  ·exact absurd (z ▸ k0) h2
  ·omega
 ·have : pl ∈ outK n K := (mem_outK n K pl).mpr ⟨by omega,p2,hk⟩
  rw [z] at this
  cases this
 ·rw [cutS_web] at hc
  rw [← hc,← cutS_not h fun x => decide (x ∈ K)]
  refine cutS_congr hw fun x x0 x1 => ?_
  by_cases z : x ∈ K
  ·rw [decide_eq_true z,decide_eq_false fun y => ((mem_outK n K x).mp y).2.2 z]
   rfl
  ·rw [decide_eq_false z,decide_eq_true ((mem_outK n K x).mpr ⟨x0,x1,z⟩)]
   rfl
theorem first_side {n : Nat} (n2 : 2 ≤ n) (h : List Hv) : SdR n h (cutS h fun q => decide (q ∈ (List.range (n - 1)).map fun i : Nat => 1 + (i : Int))) ((List.range (n - 1)).map fun i : Nat => 1 + (i : Int)) := by
 refine ⟨?_,fun x hx => ?_,fun z => ?_,rfl⟩
 ·rw [List.pairwise_map]
  exact (List.pairwise_lt_range).imp fun h => by omega
 ·obtain ⟨i,hi,rfl⟩ := List.mem_map.mp hx
  have := List.mem_range.mp hi
  omega
 ·have := congrArg List.length z
  simp at this
  omega
structure LiR (n : Nat) (h : List Hv) (T : Int) (S : List Int) (f : Nat → List Int) : Prop where
 sd : SdR n h T S
 fl : ∀ i,i < n - 1 → (f i).length = h.length ∧ (webOf h).Flow (fA (f i)) 0 (1 + (i : Nat)) T
abbrev LE6 (n : Nat) (h : List Hv) (c2 c3 c4 c5 : Cell) : Env := [.sh (.int (n : Nat)),.sh (hsD h),c2,c3,c4,c5]
theorem lightest_ok (n : Nat) (n2 : 2 ≤ n) (n10 : n ≤ 10) (h : List Hv) (hw : HW n h) (hl : h.length ≤ 40) :
  ∃ (T : Int) (S : List Int) (f : Nat → List Int),f_z13 [.int (n : Nat),hsD h] = some (.val (.tup [.int T,tupI S,.lst ((List.range (n - 1)).map fun i => intL (f i))])) ∧ fP_lightest [.int (n : Nat),hsD h] = some (.t [.s (.int T),.s (tupI S),.l ((List.range (n - 1)).map fun i => flP (f i))]) ∧ LiR n h T S f := by
 have hp : HP n h := fun i hi => by have := hw _ (gT_mem hi); omega
 have hw0 : ∀ i < h.length,0 ≤ wI h i := fun i hi => by have := hw _ (gT_mem hi); unfold wI; omega
 have hne : ∀ i < h.length,(gT h i).a ≠ (gT h i).b := fun i hi => by have := hw _ (gT_mem hi); omega
 have fl : ∀ (pl : Int),1 ≤ pl → pl < n → ∀ most : Int,0 ≤ most → most ≤ 1000000000000000000000000000000000000000 → _ := fun pl p1 p2 most m0 m1 => flow_to_ok n (by omega) (by omega) h hp (by omega) hw0 hne pl p1 p2 most m0 m1
 have et : gTuR2 [.int 1,.int (n : Nat)] = some (.val (tupI ((List.range (n - 1)).map fun i : Nat => 1 + (i : Int)))) := by
  unfold gTuR2
  dsimp only
  rw [if_pos (by omega)]
  have : ((n : Int) - 1).toNat = n - 1 := by omega
  rw [this,ups_enc1,tupI,List.map_map]
  rfl
 have el : ((n : Int) - 1).toNat = n - 1 := by omega
 have eR : ∀ (c2 c3 c4 c5 : Cell),iR2 (eC (.int 1)) (eV 0) (LE6 n h c2 c3 c4 c5) = some ((List.range (n - 1)).map (fun i : Nat => Dat.int (1 + (i : Nat))),LE6 n h c2 c3 c4 c5) := fun c2 c3 c4 c5 => by
  apply Wi.get
  refine Wi.R2 (We.c (Wint.mk (We.v rfl (Wint.mk ⟨⟨?_,rfl⟩,by unfold BIG; omega⟩))))
  rw [el]
  rfl
 obtain ⟨ρ4,e4,T,S,c4,c5,rfl,sd,lo⟩ := nx_of (s := sFor (iR2 (eC (.int 1)) (eV 0)) (bN 4) b0_z13) (ρ := LE6 n h (.sh (tupI ((List.range (n - 1)).map fun i : Nat => 1 + (i : Int)))) (.sh (.int (cutS h fun q => decide (q ∈ (List.range (n - 1)).map fun i : Nat => 1 + (i : Int))))) .un .un)
   (N := fun ρ => ∃ (T : Int) (S : List Int) (c4 c5 : Cell),ρ = LE6 n h (.sh (tupI S)) (.sh (.int T)) c4 c5 ∧ SdR n h T S ∧ ∀ x : Int,1 ≤ x → x ≤ (List.range (n - 1)).length → ∀ S : Int → Bool,S 0 = true → S x = false → T ≤ cutS h S) (by
  refine Ws.For ⟨_,_,eR _ _ _ _,?_⟩
  refine Ws.inv (fun i : Nat => Dat.int (1 + (i : Nat))) _ _ (List.range (n - 1)) _ _ _ _ _ (fun p q ρ => ∃ (T : Int) (S : List Int) (c4 c5 : Cell),ρ = LE6 n h (.sh (tupI S)) (.sh (.int T)) c4 c5 ∧ SdR n h T S ∧ ∀ x : Int,1 ≤ x → x ≤ p.length → ∀ S : Int → Bool,S 0 = true → S x = false → T ≤ cutS h S) ⟨_,_,_,_,rfl,first_side n2 h,fun x x1 x2 => by simp at x2; omega⟩ ?_ (fun ρ z => z)
  rintro p i q ρ e ⟨T,S,c4,c5,rfl,sd,lo⟩
  obtain ⟨ip,il⟩ := range_at' e
  have t0 : 0 ≤ T := by rw [← sd.wt]; exact hw.nn _
  have t1 : T ≤ 1000000000000000000000000000000000000000 := by rw [← sd.wt]; exact hw.top hl _
  obtain ⟨T',F,K,ef,_,it⟩ := fl (1 + (i : Nat)) (by omega) (by omega) T t0 t1
  have low : ∀ S : Int → Bool,S 0 = true → S (1 + (i : Nat)) = false → T' ≤ cutS h S := fun S s1 s2 => by
   have := it.FL.le s1 s2
   rw [cutS_web] at this
   exact this
  refine Dm.bind_go rfl (by first | (dsimp only [List.set]; first | done | rfl) | rfl) ?_
  unfold b0_z13
  refine Ws.seq (Ws.A (We.F (Was.cons (We.v rfl (Was.cons (We.v rfl (Was.cons (We.v rfl (Was.cons (We.v rfl (Was.nil (WF.box ef ?_ rfl rfl rfl rfl))))))))))) (by decide))
  refine WA.val ?_ (by first | (dsimp only [List.set]; first | done | rfl) | rfl)
  refine Ws.If (Wt.V (We.e2 (We.e2 (We.v rfl (We.c (Wg2.ix (v := .int T') ?_ rfl rfl rfl))))))
  refine We.v rfl (Wg2.lt (Wb.mk ?_) rfl rfl)
  refine ⟨fun c => ?_,fun c => ?_⟩
  ·have c := of_decide_eq_true c
   refine Ws.seq (Ws.A (We.e2 (We.v rfl (We.c (Wg2.ix (v := .int T') ?_ rfl rfl rfl)))) (by decide))
   refine WA.val ?_ (by first | (dsimp only [List.set]; first | done | rfl) | rfl)
   refine Ws.A (We.e2 (We.v rfl (We.c (Wg2.ix (v := tupI (outK n K)) ?_ rfl rfl rfl)))) (by decide)
   refine WA.val ?_ (by first | (dsimp only [List.set]; first | done | rfl) | rfl)
   rcases it.fin with z | ⟨z1,z2⟩
   ·omega
   ·refine ⟨T',outK n K,_,_,rfl,outK_side hw it.k0 (by omega) (by omega) z1 z2,fun x x1 x2 S z1 z2 => ?_⟩
    rw [List.length_append,List.length_singleton] at x2
    by_cases q : x ≤ p.length
    ·have := lo x x1 q S z1 z2; omega
    ·have : x = 1 + (i : Nat) := by omega
     subst this
     exact low S z1 z2
  ·have c := of_decide_eq_false c
   refine Ws.nx ⟨T,S,_,_,rfl,sd,fun x x1 x2 S z1 z2 => ?_⟩
   rw [List.length_append,List.length_singleton] at x2
   by_cases q : x ≤ p.length
   ·exact lo x x1 q S z1 z2
   ·have : x = 1 + (i : Nat) := by omega
    subst this
    have := low S z1 z2
    omega)
 have t0 : 0 ≤ T := by rw [← sd.wt]; exact hw.nn _
 have t1 : T ≤ 1000000000000000000000000000000000000000 := by rw [← sd.wt]; exact hw.top hl _
 have fex : ∀ i : Nat,∃ F : List Int,i < n - 1 → ∃ d : List Int,f_z12 [.int (n : Nat),hsD h,.int (1 + (i : Nat)),.int T] = some (.val (.tup [.int T,intL F,tupI d])) ∧ fP_flow_to [.int (n : Nat),hsD h,.int (1 + (i : Nat)),.int T] = some (.t [.s (.int T),flP F,.s (tupI d)]) ∧ F.length = h.length ∧ (webOf h).Flow (fA F) 0 (1 + (i : Nat)) T := fun i => by
  by_cases hi : i < n - 1
  ·obtain ⟨T',F,K,e1,e2,it⟩ := fl (1 + (i : Nat)) (by omega) (by omega) T t0 t1
   have : T' = T := by
    rcases it.fin with z | ⟨z1,z2⟩
    ·exact z
    ·rw [cutS_web] at z2
     have := lo (1 + (i : Nat)) (by omega) (by rw [List.length_range]; omega) (fun x => decide (x ∈ K)) (decide_eq_true it.k0) (decide_eq_false z1)
     have := it.t1
     omega
   subst this
   exact ⟨F,fun _ => ⟨outK n K,e1,e2,it.fl,it.FL⟩⟩
  ·exact ⟨[],fun z => absurd z hi⟩
 obtain ⟨f,hf⟩ := Classical.skolem.mp fex
 have lk := look_ok n (by omega) (by omega) h hw hl
 refine ⟨T,S,f,?_,?_,sd,fun i hi => by obtain ⟨d,_,_,h3,h4⟩ := hf i hi; exact ⟨h3,h4⟩⟩
 ·apply Wr.eq
  unfold f_z13
  (refine Dm.Wr.fn ?_ rfl rfl; dsimp only [List.map,List.replicate,List.cons_append,List.nil_append])
  refine Ws.seq (Ws.E (We.F (Was.cons (We.v rfl (Was.cons (We.v rfl (Was.nil (WF.val lk ?_ rfl rfl))))))))
  refine Ws.seq (Ws.If (Wt.V (We.e2 (We.v rfl (We.c (Wg2.eq (Wb.mk (Wif.no (decide_eq_false (by omega)) (Ws.nx ?_))) rfl rfl))))))
  refine Ws.seq (Ws.A (We.B (Was.cons (We.c (Was.cons (We.v rfl (Was.nil ⟨_,_,rfl,et,WA.val ?_ (by first | (dsimp only [List.set]; first | done | rfl) | rfl)⟩)))))) (by decide))
  refine Ws.seq (Ws.A (We.F (Was.cons (We.v rfl (Was.cons (We.v rfl (Was.nil (WF.val (side_weight_ok h (by omega) _) (WA.val ?_ (by first | (dsimp only [List.set]; first | done | rfl) | rfl)) rfl rfl))))))) (by decide))
  refine Ws.seq ⟨_,e4,?_⟩
  refine Ws.R (We.T (Was.cons (We.v rfl (Was.cons (We.v rfl (Was.cons (We.Map (fun i : Nat => Dat.int (1 + (i : Nat))) (List.range (n - 1)) (fun i : Nat => intL (f i)) id (ρ1 := LE6 n h (.sh (tupI S)) (.sh (.int T)) c4 c5) ?_ (eR _ _ _ _) rfl (by decide) (by rw [List.length_range]; unfold SZ; omega) fun i hi => ?_)))))))
  ·refine Was.nil (WT.mk ?_ rfl rfl (by exact Nat.le_of_ble_eq_true rfl))
   rw [List.map_map]
   rfl
  ·obtain ⟨d,e1,_,_,_⟩ := hf i (List.mem_range.mp hi)
   refine We.e2 (We.F (Was.cons (We.v rfl (Was.cons (We.v rfl (Was.cons (We.v rfl (Was.cons (We.v rfl (Was.nil (WF.box e1 ?_ rfl rfl rfl rfl)))))))))))
   exact We.c (Wg2.ix (v := intL (f i)) (Wk.val ⟨rfl,rfl⟩) rfl rfl rfl)
 ·suffices hh : ∃ p,fP_lightest [.int (n : Nat),hsD h] = some p ∧ p = .t [.s (.int T),.s (tupI S),.l ((List.range (n - 1)).map fun i => flP (f i))] by
   obtain ⟨p,hh,rfl⟩ := hh
   exact hh
  unfold fP_lightest
  refine Wq.fn ?_ rfl rfl
  dsimp only [List.map,List.replicate,List.cons_append,List.nil_append]
  refine Wq.seq (Ws.E (We.F (Was.cons (We.v rfl (Was.cons (We.v rfl (Was.nil (WF.val lk ?_ rfl rfl))))))))
  refine Wq.ifNo (Wt.V (We.e2 (We.v rfl (We.c (Wg2.eq (Wb.mk ⟨decide_eq_false (by omega),?_⟩) rfl rfl)))))
  refine Wq.seq (Ws.A (We.B (Was.cons (We.c (Was.cons (We.v rfl (Was.nil ⟨_,_,rfl,et,WA.val ?_ (by first | (dsimp only [List.set]; first | done | rfl) | rfl)⟩)))))) (by decide))
  refine Wq.seq (Ws.A (We.F (Was.cons (We.v rfl (Was.cons (We.v rfl (Was.nil (WF.val (side_weight_ok h (by omega) _) (WA.val ?_ (by first | (dsimp only [List.set]; first | done | rfl) | rfl)) rfl rfl))))))) (by decide))
  refine Wq.seq ⟨_,e4,?_⟩
  refine Wq.ret (Wp'.T (Wpa.cons (Wp'.val (We.v rfl ⟨rfl,Wpa.cons (Wp'.val (We.v rfl ⟨rfl,Wpa.cons ?_⟩))⟩))))
  refine Wp'.Comp (fun i : Nat => Dat.int (1 + (i : Nat))) (List.range (n - 1)) (fun i => flP (f i)) (fun ρ => ∃ c,ρ = LE6 n h (.sh (tupI S)) (.sh (.int T)) c4 c5 ++ [c]) (eR _ _ _ _) (by rw [List.length_range]; unfold SZ; omega) ⟨.un,rfl⟩ ?_ (fun ρ2 _ => Wpa.nil ⟨Nat.le_of_ble_eq_true rfl,rfl⟩)
  rintro i hi ρ ⟨c,rfl⟩
  obtain ⟨d,_,e2,_,_⟩ := hf i (List.mem_range.mp hi)
  refine Dm.bind_go rfl (by first | (dsimp only [List.set]; first | done | rfl) | rfl) ?_
  refine Wp'.Ix (m := 1) (xs := [.s (.int T),flP (f i),.s (tupI d)]) (Wp'.Call (Was.cons (We.v rfl (Was.cons (We.v rfl (Was.cons (We.v rfl (Was.cons (We.v rfl (Was.nil ⟨_,_,_,e2,⟨rfl,rfl,_,rfl⟩,rfl⟩)))))))))) rfl rfl
theorem lightest_one (h : List Hv) (hw : HW 1 h) (hl : h.length ≤ 40) : fP_lightest [.int ((1 : Nat) : Int),hsD h] = some (.s .non) := by
 suffices hh : ∃ p,fP_lightest [.int ((1 : Nat) : Int),hsD h] = some p ∧ p = .s .non by
  obtain ⟨p,hh,rfl⟩ := hh
  exact hh
 unfold fP_lightest
 refine Wq.fn ?_ rfl rfl
 dsimp only [List.map,List.replicate,List.cons_append,List.nil_append]
 refine Wq.seq (Ws.E (We.F (Was.cons (We.v rfl (Was.cons (We.v rfl (Was.nil (WF.val (look_ok 1 (by omega) (by omega) h hw hl) ?_ rfl rfl))))))))
 exact Wq.ifYes (d := .non) (Wt.V (We.e2 (We.v rfl (We.c (Wg2.eq (Wb.mk ⟨rfl,We.c rfl⟩) rfl rfl))))) rfl
theorem Wg2.mulN {x : Int} {k : Nat} {o p : Option Dat} {K : RV → Prop} (q : K (.new (.lst ((List.replicate k x).map Dat.int)))) (ho : o = some (.lst [.int x])) (hp : p = some (.int (k : Nat))) (h : k ≤ SZ) : Wg2 gMul o p K := by
 refine ⟨_,_,_,ho,hp,?_,q⟩
 unfold gMul
 dsimp only
 have e : (List.replicate k [Dat.int x]).flatten = (List.replicate k x).map Dat.int := by
  clear ho hp h q
  induction k with
  | zero => rfl
  | succ k ih => rw [List.replicate_succ,List.flatten_cons,ih,List.replicate_succ,List.map_cons]; rfl
 rw [if_pos ⟨by unfold BIG; unfold SZ at h; omega,by unfold BIG; omega,by rw [Int.toNat_natCast]; simpa using h⟩,Int.toNat_natCast,e]
def cL (n : Nat) (g : Int → Int) : Dat := .lst ((List.range n).map fun i : Nat => Dat.int (g (i : Int)))
theorem cL_ix (n : Nat) (g : Int → Int) {x : Int} (h0 : 0 ≤ x) (h1 : x < n) : gIx (cL n g) (.int x) = some (.val (.int (g x))) := by
 unfold gIx cL
 dsimp only
 rw [Dm.atI_map (fun i : Nat => Dat.int (g (i : Int))) _ _ h0 (by simp; omega)]
 have : ((x.toNat : Nat) : Int) = x := by omega
 simp [this]
def put (g : Int → Int) (a v : Int) : Int → Int := fun x => if x = a then v else g x
theorem cL_set (n : Nat) (g : Int → Int) {x v : Int} (h0 : 0 ≤ x) (h1 : x < n) : ((List.range n).map fun i : Nat => Dat.int (g (i : Int))).set x.toNat (.int v) = (List.range n).map fun i : Nat => Dat.int (put g x v (i : Int)) := by
 apply List.ext_getElem?
 intro j
 by_cases e : x.toNat = j
 ·subst e
  have hl : x.toNat < n := by omega
  rw [List.getElem?_set_self (by simpa using hl),List.getElem?_map,List.getElem?_range hl]
  show some (Dat.int v) = some (Dat.int (put g x v ((x.toNat : Nat) : Int)))
  unfold put
  rw [if_pos (by omega)]
 ·rw [List.getElem?_set_ne e,List.getElem?_map,List.getElem?_map]
  by_cases hj : j < n
  ·rw [List.getElem?_range hj]
   show some (Dat.int _) = some (Dat.int (put g x v (j : Int)))
   unfold put
   rw [if_neg (by omega)]
  ·rw [List.getElem?_eq_none (by simpa using hj)]
   rfl
theorem cL_zero (n : Nat) : Dat.lst ((List.replicate n (0 : Int)).map Dat.int) = cL n fun _ => 0 := by
 unfold cL
 congr 1
 apply List.ext_getElem?
 intro j
 rw [List.getElem?_map,List.getElem?_map,List.getElem?_replicate]
 by_cases hj : j < n
 ·rw [if_pos hj,List.getElem?_range hj]; rfl
 ·rw [if_neg hj,List.getElem?_eq_none (by simpa using hj)]; rfl
theorem ixN_at' (n : Nat) (g : Int → Int) {k : Int} (h0 : 0 ≤ k) (h1 : k < n) : ixN ((List.range n).map fun i : Nat => Dat.int (g (i : Int))).length k = some k.toNat := by
 rw [List.length_map,List.length_range]
 exact ixN_at h0 h1
def comeP : List (Hv × Int) → Int → Int
 | [],_ => 0
 | (t,g) :: r,x => g * (one (x == t.b) - one (x == t.a)) + comeP r x
theorem comeP_snoc (t : Hv) (g : Int) (x : Int) : ∀ p,comeP (p ++ [(t,g)]) x = comeP p x + g * (one (x == t.b) - one (x == t.a))
 | [] => by simp [comeP]
 | (u,k) :: p => by rw [List.cons_append,comeP,comeP,comeP_snoc t g x p]; omega
theorem come_sm (x : Int) : ∀ (h : List Hv) (F : List Int),F.length = h.length → comeP (h.zip F) x = sm (fun i => fA F i * (one (x == (gT h i).b) - one (x == (gT h i).a))) h.length
 | [],[],_ => rfl
 | t :: h,g :: F,e => by
  rw [List.zip_cons_cons,comeP,come_sm x h F (by simpa using e),List.length_cons,sm_left]
  rfl
 | [],_ :: _,e => by simp at e
 | _ :: _,[],e => by simp at e
theorem come_out {h : List Hv} {F : List Int} (fl : F.length = h.length) {pl T : Int} (FL : (webOf h).Flow (fA F) 0 pl T) (x : Int) : comeP (h.zip F) x = T * (one (x == pl) - one (x == 0)) := by
 have := FL.out fun y => x == y
 unfold Fl.Web.out at this
 rw [come_sm x h F fl]
 have e : sm (fun i => fA F i * (one (x == (gT h i).b) - one (x == (gT h i).a))) h.length = - sm (fun i => fA F i * (one (x == (webOf h).a i) - one (x == (webOf h).b i))) h.length := by
  have gen : ∀ (A B C : Nat → Int) (n : Nat),sm (fun i => A i * (C i - B i)) n = - sm (fun i => A i * (B i - C i)) n := fun A B C n => by
   induction n with
   | zero => rfl
   | succ n ih =>
    rw [sm,sm,ih,Int.neg_add,← Int.mul_neg]
    congr 2
    omega
  exact gen (fun i => fA F i) (fun i => one (x == (gT h i).a)) (fun i => one (x == (gT h i).b)) h.length
 rw [e]
 have this : sm (fun i => fA F i * (one (x == (webOf h).a i) - one (x == (webOf h).b i))) h.length = T * (one (x == 0) - one (x == pl)) := this
 rw [this,← Int.mul_neg]
 congr 1
 omega
def zH (x : Hv × Int) : Dat := .tup [hvD x.1,.int x.2]
theorem zip_hv : ∀ (h : List Hv) (F : List Int),zipD (h.map hvD) (F.map Dat.int) = (h.zip F).map zH
 | [],_ => by simp [zipD]
 | _ :: _,[] => by simp [zipD]
 | t :: h,g :: F => by rw [List.map_cons,List.map_cons,zipD,zip_hv h F,List.zip_cons_cons,List.map_cons]; rfl
theorem zip_at {h : List Hv} {F : List Int} {p q : List (Hv × Int)} {t : Hv} {g : Int} (e : h.zip F = p ++ (t,g) :: q) : p.length < h.length ∧ gT h p.length = t ∧ fA F p.length = g ∧ t ∈ h := by
 have h1 : (h.zip F)[p.length]? = some (t,g) := by rw [e]; simp
 obtain ⟨h2,h3⟩ := List.getElem?_zip_eq_some.mp h1
 refine ⟨(List.getElem?_eq_some_iff.mp h2).1,?_,?_,List.mem_of_getElem? h2⟩
 ·unfold gT; rw [List.getD_eq_getElem?_getD,h2]; rfl
 ·unfold fA; rw [List.getD_eq_getElem?_getD,h3]; rfl
theorem law_whole_ok (i : Int) : f_z18 [.int i] = some (.val (.bl true)) := whole_ok i
theorem all_one {α : Type} (xs : List α) : xs.all (fun _ => true) = true := by induction xs <;> simp
theorem eq_cL (n : Nat) (g : Int → Int) : eqD (cL n g) (cL n g) = true := by
 unfold cL
 rw [eqD]
 induction (List.range n) with
 | nil => rfl
 | cons i l ih => rw [List.map_cons,eqDs,ih]; simp [eqD]
theorem ok_cL (n : Nat) (g : Int → Int) : okD 8 (cL n g) = true := okMap _ _ fun i => rfl
theorem leads_ok (n : Nat) (n10 : n ≤ 10) (h : List Hv) (hw : HW n h) (hl : h.length ≤ 40) (F : List Int) (fl : F.length = h.length) (pl T : Int) (p1 : 1 ≤ pl) (p2 : pl < n) (FL : (webOf h).Flow (fA F) 0 pl T) :
  f_z21 [.int (n : Nat),hsD h,intL F,.int pl,.int T] = some (.val (.bl true)) := by
 apply Wr.eq
 unfold f_z21
 (refine Dm.Wr.fn ?_ rfl rfl; dsimp only [List.map,List.replicate,List.cons_append,List.nil_append])
 refine Ws.seq (Ws.If (Wt.Or (Wt.Not (Wt.V (We.e1 (We.v rfl (Wg1.mk (v := .val (.bl true)) (Wb.mk (Wif.f ?_)) rfl rfl)))))))
 refine Wt.Or (Wt.V (We.e2 (We.B (Was.cons (We.v rfl (Was.nil (WB.lenI (enc := Dat.int) (xs := F) ?_ rfl)))))))
 refine We.B (Was.cons (We.v rfl (Was.nil (WB.lenI (enc := hvD) (xs := h) ?_ rfl))))
 refine Wg2.ne (Wb.mk (Wif.no ?_ ?_)) rfl rfl
 ·rw [fl,decide_eq_true rfl]; rfl
 refine Wt.Not (Wt.V (We.B (Was.cons (We.MapS Dat.int F (fun _ => true) Dat.bl (d := intL F) ?_ rfl rfl rfl (by decide) (by unfold SZ; omega) fun x _ => ?_))))
 rotate_left
 ·refine We.F (Was.cons (We.v rfl (Was.nil (WF.val (law_whole_ok x) (Wk.val ⟨rfl,rfl⟩) rfl rfl))))
 refine Was.nil (WB.all (fun _ => true) ?_ (by rw [List.map_map]; rfl))
 rw [all_one]
 refine Wb.mk (Wif.f (Ws.nx ?_))
 refine Ws.seq (Ws.A (We.e2 (We.L (Was.cons (We.c (Was.nil (WT.mk ?_ rfl rfl (by decide))))))) (by decide))
 refine We.v rfl (Wg2.mulN (x := 0) ?_ rfl rfl (by unfold SZ; omega))
 refine WA.new ?_ (by first | (dsimp only [List.set]; first | done | rfl) | rfl)
 rw [cL_zero]
 have ez : iZip (eV 1) (eV 2) [.sh (.int (n : Nat)),.sh (hsD h),.sh (intL F),.sh (.int pl),.sh (.int T),.ow (cL n fun _ => 0),.un,.un,.un,.un,.un] = some ((h.zip F).map zH,[.sh (.int (n : Nat)),.sh (hsD h),.sh (intL F),.sh (.int pl),.sh (.int T),.ow (cL n fun _ => 0),.un,.un,.un,.un,.un]) := by
  rw [← zip_hv]
  rfl
 refine Ws.seq (Ws.For ⟨_,_,ez,?_⟩)
 refine Ws.inv zH _ _ (h.zip F) _ _ _ _ _ (fun p q ρ => ∃ (g : Int → Int) (c6 c7 c8 c9 : Cell),ρ = [.sh (.int (n : Nat)),.sh (hsD h),.sh (intL F),.sh (.int pl),.sh (.int T),.ow (cL n g),c6,c7,c8,c9,.un] ∧ ∀ x,g x = comeP p x) ⟨_,_,_,_,_,rfl,fun x => rfl⟩ ?_ ?_
 ·rintro p ⟨t,x⟩ q ρ e ⟨g,c6,c7,c8,c9,rfl,hg⟩
  obtain ⟨pl1,e1,e2',tm⟩ := zip_at e
  have fits := FL.fits p.length pl1
  have ew : (webOf h).w p.length = t.w := by show wI h p.length = t.w; unfold wI; rw [e1]
  rw [e2',ew] at fits
  obtain ⟨a0,a1,a2,a3,a4⟩ := hw t tm
  refine ⟨[.sh (.int (n : Nat)),.sh (hsD h),.sh (intL F),.sh (.int pl),.sh (.int T),.ow (cL n g),.sh (.int t.a),.sh (.int t.b),.sh (.int t.w),.sh (.int x),.un],rfl,?_⟩
  unfold b0_z21
  refine Ws.seq (Ws.If (Wt.V (We.e2 (We.B (Was.cons (We.v rfl (Was.nil ⟨_,_,rfl,rfl,?_⟩)))))))
  refine We.v rfl (Wg2.gt (Wb.mk (Wif.no (decide_eq_false ?_) (Ws.nx ?_))) rfl rfl)
  ·split <;> omega
  refine Ws.seq (Ws.Set (We.e2 (We.e2 (We.w rfl (We.v rfl (Wg2.ix ?_ rfl rfl (cL_ix n g a0 (by omega))))))))
  refine We.v rfl (Wg2.sub (Wk.val ⟨⟨_,rfl⟩,We.v rfl (Wint.mk ⟨_,t.a.toNat,_,rfl,ixN_at' n g a0 (by omega),rfl,?_⟩)⟩) rfl rfl)
  rw [cL_set n g a0 (by omega)]
  refine Ws.Set (We.e2 (We.e2 (We.w rfl (We.v rfl (Wg2.ix ?_ rfl rfl (cL_ix n (put g t.a (g t.a - x)) (by omega) a2))))))
  refine We.v rfl (Wg2.add (Wk.val ⟨⟨_,rfl⟩,We.v rfl (Wint.mk ⟨_,t.b.toNat,_,rfl,ixN_at' n (put g t.a (g t.a - x)) (by omega) a2,rfl,?_⟩)⟩) rfl rfl)
  rw [cL_set n (put g t.a (g t.a - x)) (by omega) a2]
  refine ⟨put (put g t.a (g t.a - x)) t.b (put g t.a (g t.a - x) t.b + x),_,_,_,_,rfl,fun y => ?_⟩
  rw [comeP_snoc,← hg y]
  unfold put
  by_cases q1 : y = t.b
  ·have : y ≠ t.a := by omega
   rw [if_pos q1,if_neg (by omega : t.b ≠ t.a)]
   have b1 : (y == t.b) = true := by simpa using q1
   have b2 : (y == t.a) = false := by simpa using this
   rw [b1,b2,q1]
   simp [one]
  ·rw [if_neg q1]
   have b1 : (y == t.b) = false := by simpa using q1
   by_cases q2 : y = t.a
   ·have b2 : (y == t.a) = true := by simpa using q2
    rw [if_pos q2,b1,b2,q2]
    simp [one]
    omega
   ·have b2 : (y == t.a) = false := by simpa using q2
    rw [if_neg q2,b1,b2]
    simp [one]
 ·rintro ρ ⟨g,c6,c7,c8,c9,rfl,hg⟩
  have eg : cL n g = cL n (put (put (fun _ => 0) 0 (0 - T)) pl T) := by
   unfold cL
   congr 1
   apply List.map_congr_left
   intro i _
   show Dat.int (g i) = Dat.int _
   rw [hg,come_out fl FL]
   unfold put
   congr 1
   by_cases q1 : (i : Int) = pl
   ·rw [if_pos q1]
    have b1 : ((i : Int) == pl) = true := by simpa using q1
    have b2 : ((i : Int) == 0) = false := by simp; omega
    rw [b1,b2]
    simp [one]
   ·rw [if_neg q1]
    have b1 : ((i : Int) == pl) = false := by simpa using q1
    by_cases q2 : (i : Int) = 0
    ·have b2 : ((i : Int) == 0) = true := by simpa using q2
     rw [if_pos q2,b1,b2]
     simp [one]
    ·have b2 : ((i : Int) == 0) = false := by simpa using q2
     rw [if_neg q2,b1,b2]
     simp [one]
  refine Ws.seq (Ws.A (We.e2 (We.L (Was.cons (We.c (Was.nil (WT.mk ?_ rfl rfl (by decide))))))) (by decide))
  refine We.v rfl (Wg2.mulN (x := 0) ?_ rfl rfl (by unfold SZ; omega))
  refine WA.new ?_ (by first | (dsimp only [List.set]; first | done | rfl) | rfl)
  rw [cL_zero]
  refine Ws.seq (Ws.Set (We.e2 (We.c (We.v rfl (Wg2.sub (Wk.val ⟨⟨_,rfl⟩,We.c (Wint.mk ⟨_,(0 : Int).toNat,_,rfl,ixN_at' n (fun _ => 0) (by omega) (by omega),rfl,?_⟩)⟩) rfl rfl)))))
  rw [cL_set n (fun _ => 0) (by omega) (by omega)]
  refine Ws.seq (Ws.Set (We.v rfl (Wk.val ⟨⟨_,rfl⟩,We.v rfl (Wint.mk ⟨_,pl.toNat,_,rfl,ixN_at' n (put (fun _ => 0) 0 (0 - T)) (by omega) p2,rfl,?_⟩)⟩)))
  rw [cL_set n (put (fun _ => 0) 0 (0 - T)) (by omega) p2]
  refine Ws.R (We.e2 (We.w rfl (We.w rfl ⟨_,_,_,rfl,rfl,(?_ : gEq (cL n g) (cL n (put (put (fun _ => 0) 0 (0 - T)) pl T)) = some (.val (.bl true))),rfl⟩)))
  rw [eg]
  unfold gEq
  rw [ok_cL,eq_cL]
  rfl
theorem ixT_go {α : Type} {enc : α → Dat} {xs : List α} {i : Int} {o p : Option Dat} {K : RV → Prop} (h0 : 0 ≤ i) (h1 : i < xs.length) (k : K (.val (enc (xs[i.toNat]'(by omega))))) (ho : o = some (.tup (xs.map enc))) (hp : p = some (.int i)) : Wg2 gIx o p K :=
 ⟨_,_,_,ho,hp,by show (atI (xs.map enc) i).map RV.val = _; rw [Dm.atI_map enc xs i h0 h1]; rfl,k⟩
theorem We.chainLt {a b c : FE} {ρ : Env} {i j k : Int} {Q : Val → Env → Prop} (ha : a ρ = some (.val (.int i),ρ)) (hb : b ρ = some (.val (.int j),ρ)) (hc : c ρ = some (.val (.int k),ρ)) (h1 : i < j) (h2 : j < k) (q : Q (.val (.bl true)) ρ) : We (eChain gLt gLt a b c) ρ Q := by
 refine ⟨_,_,?_,q⟩
 unfold eChain
 rw [ha]; dsimp only; rw [hb]
 dsimp only [pk]
 have e1 : gLt (.int i) (.int j) = some (.val (.bl true)) := by unfold gLt; dsimp only; rw [decide_eq_true h1]
 have e2 : gLt (.int j) (.int k) = some (.val (.bl true)) := by unfold gLt; dsimp only; rw [decide_eq_true h2]
 rw [e1]
 dsimp only
 rw [hc]
 dsimp only [pk]
 rw [e2]
 rfl
theorem is_side_ok {n : Nat} {h : List Hv} {T : Int} {S : List Int} (s : SdR n h T S) (n10 : n ≤ 10) (hl : S.length ≤ 1000) : f_z20 [.int (n : Nat),tupI S] = some (.val (.bl true)) := by
 apply Wr.eq
 unfold f_z20
 (refine Dm.Wr.fn ?_ rfl rfl; dsimp only [List.map,List.replicate,List.cons_append,List.nil_append])
 refine Ws.seq (Ws.If (Wt.Or (Wt.Not (Wt.V (We.e1 (We.v rfl (Wg1.mk (v := .val (.bl true)) (Wb.mk (Wif.f ?_)) rfl rfl)))))))
 refine Wt.Or (Wt.V (We.e2 (We.v rfl (We.T (Was.nil (WT.mk ?_ rfl rfl (by decide)))))))
 have e0 : gEq (tupI S) (.tup []) = some (.val (.bl false)) := by
  cases S with
  | nil => exact absurd rfl s.ne
  | cons x S =>
   unfold gEq
   have o1 : okD 8 (tupI (x :: S)) = true := by
    unfold tupI okD
    rw [List.all_eq_true]
    intro y hy
    obtain ⟨i,_,rfl⟩ := List.mem_map.mp hy
    rfl
   rw [o1]
   rfl
 refine ⟨_,_,_,rfl,rfl,e0,Wb.mk (Wif.f ?_)⟩
 refine Wt.Not (Wt.V (We.B (Was.cons (We.MapS Dat.int S (fun _ => true) Dat.bl (d := tupI S) ?_ rfl rfl rfl (by decide) (by unfold SZ; omega) fun x hx => ?_))))
 rotate_left
 ·obtain ⟨x1,x2⟩ := s.inn x hx
  refine We.And (We.F (Was.cons (We.v rfl (Was.nil (WF.val (law_whole_ok x) (Wb.mk (Wif.t ?_)) rfl rfl)))))
  exact We.chainLt (i := 0) (j := x) (k := (n : Nat)) rfl rfl rfl (by omega) x2 (Wk.val ⟨rfl,rfl⟩)
 refine Was.nil (WB.all (fun _ => true) ?_ (by rw [List.map_map]; rfl))
 rw [all_one]
 refine Wb.mk (Wif.f (Ws.nx ?_))
 have eR : iR2 (eC (.int 1)) (eB gLen [(eV 1)]) [.sh (.int (n : Nat)),.sh (tupI S)] = some ((List.range (S.length - 1)).map (fun i : Nat => Dat.int (1 + (i : Nat))),[.sh (.int (n : Nat)),.sh (tupI S)]) := by
  apply Wi.get
  refine Wi.R2 (We.c (Wint.mk (We.B (Was.cons (We.v rfl (Was.nil ⟨_,_,rfl,rfl,Wint.mk ⟨⟨?_,rfl⟩,?_⟩⟩))))))
  ·rw [List.length_map]
   have : (((S.length : Nat) : Int) - 1).toNat = S.length - 1 := by omega
   rw [this]
   rfl
  ·rw [List.length_map]; unfold BIG; omega
 refine Ws.R (We.B (Was.cons (We.Map (fun i : Nat => Dat.int (1 + (i : Nat))) (List.range (S.length - 1)) (fun _ => true) Dat.bl (ρ1 := [.sh (.int (n : Nat)),.sh (tupI S)]) ?_ eR rfl (by decide) (by rw [List.length_range]; unfold SZ; omega) fun i hi => ?_)))
 ·refine Was.nil (WB.all (fun _ => true) ?_ (by rw [List.map_map]; rfl))
  rw [all_one]
  rfl
 ·have hi' : i < S.length - 1 := List.mem_range.mp hi
  refine We.e2 (We.e2 (We.v rfl (We.e2 (We.v rfl (We.c (Wg2.sub ?_ rfl rfl))))))
  refine ixT_go (xs := S) (enc := Dat.int) (by omega) (by omega) ?_ rfl rfl
  refine We.e2 (We.v rfl (We.v rfl (ixT_go (xs := S) (enc := Dat.int) (by omega) (by omega) ?_ rfl rfl)))
  refine Wg2.lt (Wk.val ⟨?_,rfl⟩) rfl rfl
  have := List.pairwise_iff_getElem.mp s.up (1 + (i : Int) - 1).toNat (1 + (i : Int)).toNat (by omega) (by omega) (by omega)
  rw [decide_eq_true this]
def resD (n : Nat) (T : Int) (S : List Int) (f : Nat → List Int) : Dat := .tup [.int T,tupI S,.lst ((List.range (n - 1)).map fun i => intL (f i))]
theorem SdR.len {n : Nat} {h : List Hv} {T : Int} {S : List Int} (s : SdR n h T S) (n10 : n ≤ 10) : S.length ≤ 10 := by
 have nd : S.Nodup := s.up.imp fun h => by omega
 have := nodup_len S (places n) nd fun x hx => (mem_places n x).mpr ⟨by have := s.inn x hx; omega,(s.inn x hx).2⟩
 rw [places_len] at this
 omega
theorem right_ok (n : Nat) (n2 : 2 ≤ n) (n10 : n ≤ 10) (h : List Hv) (hw : HW n h) (hl : h.length ≤ 40) (T : Int) (S : List Int) (f : Nat → List Int) (L : LiR n h T S f) : f_z22 [.int (n : Nat),hsD h,resD n T S f] = some (.val (.bl true)) := by
 have el : ((n : Int) - 1).toNat = n - 1 := by omega
 apply Wr.eq
 unfold f_z22
 (refine Dm.Wr.fn ?_ rfl rfl; dsimp only [List.map,List.replicate,List.cons_append,List.nil_append])
 refine Ws.seq (Ws.If (Wt.Or (Wt.Not (Wt.V (We.e1 (We.v rfl (Wg1.mk (v := .val (.bl true)) (Wb.mk (Wif.f ?_)) rfl rfl)))))))
 refine Wt.Or (Wt.V (We.e2 (We.B (Was.cons (We.v rfl (Was.nil ⟨_,_,rfl,rfl,?_⟩))))))
 refine We.c (Wg2.ne (i := 3) (j := 3) (Wb.mk (Wif.f ?_)) rfl rfl)
 refine Wt.Or (Wt.Not (Wt.V (We.F (Was.cons (We.e2 (We.v rfl (We.c (Wg2.ix (v := .int T) (Was.nil (WF.val (law_whole_ok T) (Wb.mk (Wif.f ?_)) rfl rfl)) rfl rfl rfl))))))))
 refine Wt.Not (Wt.V (We.F (Was.cons (We.v rfl (Was.cons (We.e2 (We.v rfl (We.c (Wg2.ix (v := tupI S) (Was.nil (WF.val (is_side_ok L.sd n10 (by have := L.sd.len n10; omega)) (Wb.mk (Wif.f (Ws.nx ?_))) rfl rfl)) rfl rfl rfl)))))))))
 refine Ws.seq (Ws.If (Wt.Or (Wt.V (We.e2 (We.F (Was.cons (We.v rfl (Was.cons (We.e2 (We.v rfl (We.c (Wg2.ix (v := tupI S) (Was.nil (WF.val (law_weight_ok h (by omega) S) ?_ rfl rfl)) rfl rfl rfl))))))))))))
 refine We.e2 (We.v rfl (We.c (Wg2.ix (v := .int T) ?_ rfl rfl rfl)))
 refine Wg2.ne (Wb.mk (Wif.no ?_ ?_)) rfl rfl
 ·rw [L.sd.wt,decide_eq_true rfl]; rfl
 refine Wt.Or (Wt.Not (Wt.V (We.e1 (We.e2 (We.v rfl (We.c (Wg2.ix (v := .lst ((List.range (n - 1)).map fun i => intL (f i))) (Wg1.mk (v := .val (.bl true)) (Wb.mk (Wif.f ?_)) rfl rfl) rfl rfl rfl)))))))
 refine Wt.V (We.e2 (We.B (Was.cons (We.e2 (We.v rfl (We.c (Wg2.ix (v := .lst ((List.range (n - 1)).map fun i => intL (f i))) (Was.nil (WB.lenI (enc := fun i => intL (f i)) (xs := List.range (n - 1)) ?_ rfl)) rfl rfl rfl)))))))
 refine We.e2 (We.v rfl (We.c (Wg2.sub (Wg2.ne (Wb.mk (Wif.no ?_ (Ws.nx ?_))) rfl rfl) rfl rfl)))
 ·rw [List.length_range,decide_eq_true (by omega)]; rfl
 have eR : iR1 (e2 gSub (eV 0) (eC (.int 1))) [.sh (.int (n : Nat)),.sh (hsD h),.sh (resD n T S f)] = some ((List.range (n - 1)).map (fun i : Nat => Dat.int (0 + (i : Nat))),[.sh (.int (n : Nat)),.sh (hsD h),.sh (resD n T S f)]) := by
  apply Wi.get
  refine Wi.R1 (We.e2 (We.v rfl (We.c (Wg2.sub (Wint.mk ⟨⟨?_,rfl⟩,by unfold BIG; omega,by unfold BIG; omega⟩) rfl rfl))))
  rw [el]
  rfl
 refine Ws.R (We.B (Was.cons (We.Map (fun i : Nat => Dat.int (0 + (i : Nat))) (List.range (n - 1)) (fun _ => true) Dat.bl (ρ1 := [.sh (.int (n : Nat)),.sh (hsD h),.sh (resD n T S f)]) ?_ eR rfl (by decide) (by rw [List.length_range]; unfold SZ; omega) fun i hi => ?_)))
 ·refine Was.nil (WB.all (fun _ => true) ?_ (by rw [List.map_map]; rfl))
  rw [all_one]
  rfl
 ·have hi' : i < n - 1 := List.mem_range.mp hi
  obtain ⟨f1,f2⟩ := L.fl i hi'
  have gi : gIx (.lst ((List.range (n - 1)).map fun i => intL (f i))) (.int (0 + (i : Nat))) = some (.val (intL (f i))) := by
   unfold gIx
   dsimp only
   rw [Dm.atI_map (fun i => intL (f i)) _ _ (by omega) (by simp; omega)]
   have : (0 + ((i : Nat) : Int)).toNat = i := by omega
   simp [this]
  refine We.F (Was.cons (We.v rfl (Was.cons (We.v rfl (Was.cons (We.e2 (We.e2 (We.v rfl (We.c (Wg2.ix (v := .lst ((List.range (n - 1)).map fun i => intL (f i))) (We.v rfl (Wg2.ix ?_ rfl rfl gi)) rfl rfl rfl))))))))))
  refine Was.cons (We.e2 (We.v rfl (We.c (Wg2.add ?_ rfl rfl))))
  refine Was.cons (We.e2 (We.v rfl (We.c (Wg2.ix (v := .int T) ?_ rfl rfl rfl))))
  have ld := leads_ok n n10 h hw hl (f i) f1 (1 + (i : Nat)) T (by omega) (by omega) f2
  have ei : (0 + ((i : Nat) : Int) + 1) = 1 + (i : Nat) := by omega
  rw [ei]
  exact Was.nil (WF.val ld (Wk.val ⟨rfl,rfl⟩) rfl rfl)
def rowF (f : Nat → List Int) (m j : Nat) : List Int := if j < m then f j ++ [1] else f j
theorem rowF_0 (f : Nat → List Int) : rowF f 0 = f := by
 funext j
 unfold rowF
 rw [if_neg (by omega)]
def rowsP (n : Nat) (g : Nat → List Int) : List Dp := (List.range (n - 1)).map fun j => flP (g j)
def resP (n : Nat) (T : Int) (S : List Int) (g : Nat → List Int) : Dp := .t [.s (.int T),.s (tupI S),.l (rowsP n g)]
theorem rowsP_dats (n : Nat) (g : Nat → List Int) : Dp.dats (rowsP n g) = (List.range (n - 1)).map fun i => intL (g i) := by
 unfold rowsP
 rw [Dp.dats_map,List.map_map]
 apply List.map_congr_left
 intro i _
 show (flP (g i)).dat = _
 unfold flP
 rw [Dp.dat,Dp.dats_s]
 rfl
theorem resP_dat (n : Nat) (T : Int) (S : List Int) (g : Nat → List Int) : (resP n T S g).dat = resD n T S g := by
 unfold resP resD
 simp only [Dp.dat,Dp.dats]
 rw [rowsP_dats]
theorem noLss_ints : ∀ S : List Int,noLss (S.map Dat.int) = true
 | [] => by unfold noLss; rfl
 | x :: S => by rw [List.map_cons,noLss,noLss_ints S,noLs_int]; rfl
theorem resP_ok (n : Nat) (T : Int) (S : List Int) (g : Nat → List Int) : leafOk (resP n T S g) = true := by
 have h1 : leafOks (rowsP n g) = true := by
  unfold rowsP
  induction (List.range (n - 1)) with
  | nil => rw [List.map_nil,leafOks]
  | cons j l ih =>
   rw [List.map_cons,leafOks,ih]
   unfold flP
   rw [leafOk,leafOks_ints]
   rfl
 have h2 : noLs (tupI S) = true := by unfold tupI noLs; exact noLss_ints S
 unfold resP
 simp only [leafOk,leafOks,h1,h2,noLs_int,Bool.and_self]
theorem rowsP_app (n : Nat) (f : Nat → List Int) (hf : ∀ j,j < n - 1 → (f j).length ≤ 100) (m : Nat) (hm : m < n - 1) : rowApp (rowsP n (rowF f m)) (0 + (m : Nat)) (.int 1) = some (rowsP n (rowF f (m + 1))) := by
 have e1 : ixN (rowsP n (rowF f m)).length (0 + (m : Nat)) = some m := by
  unfold ixN rowsP
  rw [List.length_map,List.length_range,if_pos (by omega),if_pos (by omega)]
  congr 1
  omega
 have e2 : (rowsP n (rowF f m))[m]? = some (flP (f m)) := by
  unfold rowsP
  rw [List.getElem?_map,List.getElem?_range hm]
  show some (flP (rowF f m m)) = _
  unfold rowF
  rw [if_neg (by omega)]
 unfold rowApp
 rw [e1]
 dsimp only
 rw [e2]
 show (if ((f m).map Dat.int |>.map Dp.s).length < SZ then some ((rowsP n (rowF f m)).set m (.l (((f m).map Dat.int |>.map Dp.s) ++ [.s (.int 1)]))) else none) = _
 rw [if_pos (by simp only [List.length_map]; have := hf m hm; unfold SZ; omega)]
 congr 1
 apply List.ext_getElem?
 intro j
 by_cases q : m = j
 ·subst q
  rw [List.getElem?_set_self (by unfold rowsP; simpa using hm)]
  unfold rowsP
  rw [List.getElem?_map,List.getElem?_range hm]
  show _ = some (flP (rowF f (m + 1) m))
  unfold rowF flP
  rw [if_pos (by omega),List.map_append,List.map_append]
  rfl
 ·rw [List.getElem?_set_ne q]
  unfold rowsP
  rw [List.getElem?_map,List.getElem?_map]
  by_cases hj : j < n - 1
  ·rw [List.getElem?_range hj]
   show some (flP _) = some (flP _)
   unfold rowF
   by_cases h : j < m
   ·rw [if_pos h,if_pos (by omega)]
   ·rw [if_neg h,if_neg (by omega)]
  ·rw [List.getElem?_eq_none (by simpa using hj)]
   rfl
theorem eq_ints (F : List Int) : eqDs (F.map Dat.int) (F.map Dat.int) = true := by
 induction F with
 | nil => rfl
 | cons x F ih => rw [List.map_cons,eqDs,ih]; simp [eqD]
theorem eq_res (n : Nat) (T : Int) (S : List Int) (g : Nat → List Int) : eqD (resD n T S g) (resD n T S g) = true := by
 have h1 : ∀ l : List Nat,eqDs (l.map fun i => intL (g i)) (l.map fun i => intL (g i)) = true := fun l => by
  induction l with
  | nil => rfl
  | cons i l ih => rw [List.map_cons,eqDs,ih]; unfold intL; rw [eqD,eq_ints]; rfl
 unfold resD tupI
 simp only [eqD,eqDs,h1,eq_ints,Bool.and_self,beq_self_eq_true]
theorem ok_res (n : Nat) (T : Int) (S : List Int) (g : Nat → List Int) : okD 8 (resD n T S g) = true := by
 have h1 : okD 7 (tupI S) = true := by unfold tupI okD; rw [List.all_eq_true]; intro x hx; obtain ⟨i,_,rfl⟩ := List.mem_map.mp hx; rfl
 have h2 : okD 7 (.lst ((List.range (n - 1)).map fun i => intL (g i))) = true := by
  unfold okD; rw [List.all_eq_true]; intro x hx; obtain ⟨i,_,rfl⟩ := List.mem_map.mp hx
  unfold intL okD; rw [List.all_eq_true]; intro x hx; obtain ⟨i,_,rfl⟩ := List.mem_map.mp hx; rfl
 unfold resD
 show (okD 7 (.int T) && (okD 7 (tupI S) && (okD 7 (.lst ((List.range (n - 1)).map fun i => intL (g i))) && true))) = true
 rw [h1,h2]
 rfl
theorem Wg2.neRes {n : Nat} {T : Int} {S : List Int} {g : Nat → List Int} {o p : Option Dat} {Q : RV → Prop} (k : Q (.val (.bl false))) (ho : o = some (resD n T S g)) (hp : p = some (resD n T S g)) : Wg2 gNe o p Q :=
 ⟨_,_,_,ho,hp,by unfold gNe; rw [ok_res,eq_res]; rfl,k⟩
theorem eq_hs (h : List Hv) : eqD (hsD h) (hsD h) = true := by
 unfold hsD
 rw [eqD]
 induction h with
 | nil => rfl
 | cons t h ih => rw [List.map_cons,eqDs,ih]; simp [hvD,eqD,eqDs]
theorem ok_hs (h : List Hv) : okD 8 (hsD h) = true := okMap hvD h fun t => rfl
theorem Wg2.neHs {h : List Hv} {o p : Option Dat} {Q : RV → Prop} (k : Q (.val (.bl false))) (ho : o = some (hsD h)) (hp : p = some (hsD h)) : Wg2 gNe o p Q :=
 ⟨_,_,_,ho,hp,by unfold gNe; rw [ok_hs,eq_hs]; rfl,k⟩
theorem no_ints (xs : List Int) : noLks 5 (xs.map Dat.int) = true := noLks_map 5 Dat.int xs fun _ => rfl
theorem no_intL (xs : List Int) : noLk 5 (intL xs) = true := by
 unfold intL noLk
 rw [no_ints]
 cases xs <;> rfl
theorem no_res (n : Nat) (T : Int) (S : List Int) (g : Nat → List Int) : noLk 5 (resD n T S g) = true := by
 have h1 : noLk 5 (tupI S) = true := by unfold tupI noLk; exact no_ints S
 have h2 : noLk 5 (.lst ((List.range (n - 1)).map fun i => intL (g i))) = true := by
  unfold noLk
  rw [noLks_map 5 (fun i => intL (g i)) _ fun i => no_intL _]
  cases List.range (n - 1) <;> rfl
 unfold resD
 rw [noLk,noLks,noLks,noLks,noLks,h1,h2]
 rfl
theorem row_ix (n : Nat) (g : Nat → List Int) {j : Nat} (hj : j < n - 1) : gIx (.lst ((List.range (n - 1)).map fun i => intL (g i))) (.int (0 + (j : Nat))) = some (.val (intL (g j))) := by
 unfold gIx
 dsimp only
 rw [Dm.atI_map (fun i => intL (g i)) _ _ (by omega) (by simp; omega)]
 have : (0 + ((j : Nat) : Int)).toNat = j := by omega
 simp [this]
def hc (h : List Hv) : Cell := if h = [] then .sh (hsD h) else .ow (hsD h)
theorem look_handed {c : Cell} (h : List Hv) (hcc : c = .ow (hsD h) ∨ c = hc h) (n : Nat) (c0 c1 c3 c4 c6 c7 c8 : Cell) {v : RV} (e : f_z13 [.int (n : Nat),hsD h] = some v) (nl : noLk 5 v.dat = true) {Q : Val → Env → Prop} (q : Q v.toVal [c0,c1,.sh (.int (n : Nat)),c3,c4,hc h,c6,c7,c8]) :
  We (eFk 5 f_z13 [(eV 2),(eV 5)]) [c0,c1,.sh (.int (n : Nat)),c3,c4,c,c6,c7,c8] Q := by
 refine We.Fk (Was.cons (We.v rfl (Was.cons ?_)))
 unfold hc at hcc q
 by_cases hn : h = []
 ·rw [if_pos hn] at hcc q
  rcases hcc with rfl | rfl
  ·refine We.w rfl (Was.nil ⟨_,_,v,?_,e,nl,q⟩)
   subst hn
   rfl
  ·exact We.v rfl (Was.nil ⟨_,_,v,rfl,e,nl,q⟩)
 ·rw [if_neg hn] at hcc q
  have hK : headK (hsD h) = some 5 := by
   cases h with
   | nil => exact absurd rfl hn
   | cons t h => rfl
  have hcc : c = .ow (hsD h) := hcc.elim id id
  subst hcc
  refine We.w rfl (Was.nil ⟨[.int (n : Nat),hsD h],_,v,?_,e,nl,q⟩)
  have et : tkk 5 [c0,c1,.sh (.int (n : Nat)),c3,c4,.ow (hsD h),c6,c7,c8] (.slot 5) = some (hsD h,[c0,c1,.sh (.int (n : Nat)),c3,c4,.ow (hsD h),c6,c7,c8]) := by
   show (if headK (hsD h) = some 5 then _ else _) = _
   rw [if_pos hK]
  unfold tksk
  dsimp only [tkk]
  unfold tksk
  rw [et]
  rfl
section
variable (S0 : Dat) (x at_ : Int) (n : Nat) (h : List Hv)
abbrev RE (c5 c6 c7 c8 : Cell) : Env := [.sh S0,.ow (poolD x),.sh (.int (n : Nat)),.sh (.int at_),.ow (hsD h),c5,c6,c7,c8]
abbrev RS (c5 c6 c7 c8 : Cell) : Env := [.sh S0,.sh (poolD x),.sh (.int (n : Nat)),.sh (.int at_),.sh (hsD h),c5,c6,c7,c8]
theorem see_RE (T : Int) (S : List Int) (g : Nat → List Int) (c7 c8 : Cell) : see 6 (RE S0 x at_ n h (.ow (hsD h)) .un c7 c8) (resP n T S g) = RS S0 x at_ n h (.sh (hsD h)) (.sh (resD n T S g)) (shC c7) (shC c8) := by
 unfold see
 rw [resP_dat]
 rfl
theorem rest_ok (n2 : 2 ≤ n) (n10 : n ≤ 10) (hw : HW n h) (hl : h.length ≤ 40) (T : Int) (S : List Int) (f : Nat → List Int) (ef : f_z13 [.int (n : Nat),hsD h] = some (.val (resD n T S f))) (c8 : Cell) {N : Env → Prop} {R : RV → Env → Prop} {B C : Env → Prop}
  (nx : ∀ c1 c3 c4 c5 c6 c7 c8,N [.sh S0,c1,.sh (.int (n : Nat)),c3,c4,c5,c6,c7,c8]) :
  Ws (sSeq (sIf (tOr (tV (e2 gNe (eFk 5 f_z13 [(eV 2),(eV 5)]) (eV 7))) (tV (e2 gNe (eV 5) (eV 4)))) (sR (eC (.bl false))) sNx)
   (sIf (tV (e2 gNe (eV 4) (eLst []))) (sSeq (sE (ePop 5)) (sIf (tNot (tV (eF f_z22 [(eV 2),(eSl (eV 4) none (some (e1 gNeg (eC (.int 1))))),(eFk 5 f_z13 [(eV 2),(eV 5)])]))) (sR (eC (.bl false))) sNx)) sNx))
   (RE S0 x at_ n h (.ow (hsD h)) .un (.sh (resD n T S f)) c8) N R B C := by
 refine Ws.seq (Ws.If (Wt.Or (Wt.V (We.e2 (look_handed h (.inl rfl) n _ _ _ _ _ _ _ ef (no_res n T S f) ?_)))))
 refine We.v rfl (Wg2.neRes (Wb.mk (Wif.f ?_)) rfl rfl)
 have hp : ∀ {ρ : Env},ρ[5]? = some (hc h) → ∀ {Q : Val → Env → Prop},(∀ v,pk ρ v = some (hsD h) → Q v ρ) → We (eV 5) ρ Q := fun {ρ} e {Q} q => by
  unfold hc at e
  split at e
  ·exact We.v e (q _ rfl)
  ·refine We.w e (q _ ?_)
   unfold pk
   dsimp only
   rw [e]
 refine Wt.V (We.e2 (hp rfl fun v hv => We.w rfl (Wg2.neHs (Wb.mk (Wif.f (Ws.nx ?_))) hv rfl)))
 refine Ws.If (Wt.V (We.e2 (We.w rfl (We.L (Was.nil (WT.mk ?_ rfl rfl (by decide)))))))
 refine Wg2.nenil (Wb.mk ⟨fun c => ?_,fun c => Ws.nx (nx _ _ _ _ _ _ _)⟩) rfl rfl (ok_hs h)
 have hn : h ≠ [] := fun z => by subst z; cases c
 obtain ⟨h',t,rfl⟩ : ∃ h' t,h = h' ++ [t] := ⟨h.dropLast,h.getLast hn,(List.dropLast_concat_getLast hn).symm⟩
 have eh : hc (h' ++ [t]) = .ow (.lst (h'.map hvD ++ [hvD t])) := by
  unfold hc
  rw [if_neg hn]
  unfold hsD
  rw [List.map_append]
  rfl
 have hw' : HW n h' := fun u hu => hw u (List.mem_append_left _ hu)
 have hl' : h'.length ≤ 40 := by rw [List.length_append] at hl; omega
 obtain ⟨T',S',f',ef',_,L'⟩ := lightest_ok n n2 n10 h' hw' hl'
 have rt := right_ok n n2 n10 h' hw' hl' T' S' f' L'
 rw [eh]
 refine Ws.seq (Ws.E (We.Pop (ds := h'.map hvD) (d := hvD t) ?_ rfl (by first | (dsimp only [List.set]; first | done | rfl) | rfl)))
 refine Ws.If (Wt.Not (Wt.V (We.F (Was.cons (We.v rfl (Was.cons (We.Sl (We.w rfl ⟨none,_,rfl,some (-1),_,rfl,_,rfl,?_⟩))))))))
 have ec : cut ((h' ++ [t]).map hvD) none (some (-1)) = h'.map hvD := by
  unfold cut
  have e1 : sIx ((h' ++ [t]).map hvD).length ((h' ++ [t]).map hvD).length (some (-1)) = h'.length := by
   unfold sIx
   dsimp only
   rw [if_pos (by decide),List.length_map,List.length_append,List.length_singleton]
   omega
  rw [e1]
  show (((h' ++ [t]).map hvD).drop 0).take (h'.length - 0) = _
  rw [List.drop_zero,Nat.sub_zero,List.map_append,List.take_left' (by simp)]
 rw [ec]
 refine Was.cons (look_handed h' (.inl rfl) n _ _ _ _ _ _ _ ef' (no_res n T' S' f') ?_)
 exact Was.nil (WF.val rt (Wb.mk (Wif.f (Ws.nx (nx _ _ _ _ _ _ _)))) rfl rfl)
end
theorem round_ok (ns : List Int) (n : Nat) (n1 : 1 ≤ n) (n10 : n ≤ 10) (at_ : Int) (a0 : 0 ≤ at_) (c1 c4 c5 c6 c7 c8 : Cell) {N : Env → Prop} {R : RV → Env → Prop} {B C : Env → Prop}
  (nx : ∀ c1 c3 c4 c5 c6 c7 c8,N [.sh (.lst (ns.map Dat.int)),c1,.sh (.int (n : Nat)),c3,c4,c5,c6,c7,c8]) (ct : ∀ c1 c3 c4 c5 c6 c7 c8,C [.sh (.lst (ns.map Dat.int)),c1,.sh (.int (n : Nat)),c3,c4,c5,c6,c7,c8]) :
  Ws b1_z23 [.sh (.lst (ns.map Dat.int)),c1,.sh (.int (n : Nat)),.sh (.int at_),c4,c5,c6,c7,c8] N R B C := by
 obtain ⟨x0,ep⟩ := pool_ok ns at_ a0
 unfold b1_z23
 refine Ws.seq (Ws.A (We.F (Was.cons (We.v rfl (Was.cons (We.v rfl (Was.nil (WF.box ep ?_ rfl rfl rfl rfl))))))) (by decide))
 refine WA.new ?_ (by first | (dsimp only [List.set]; first | done | rfl) | rfl)
 have m4 := emod_in x0 4 (by decide)
 have em : ∃ most : Int,gIx (.lst [.int 12,.int 12,.int 12,.int 40]) (.int (x0 % 4)) = some (.val (.int most)) ∧ 0 ≤ most ∧ most ≤ 40 := by
  rcases (by omega : x0 % 4 = 0 ∨ x0 % 4 = 1 ∨ x0 % 4 = 2 ∨ x0 % 4 = 3) with e | e | e | e
  ·rw [e]; exact ⟨12,rfl,by decide,by decide⟩
  ·rw [e]; exact ⟨12,rfl,by decide,by decide⟩
  ·rw [e]; exact ⟨12,rfl,by decide,by decide⟩
  ·rw [e]; exact ⟨40,rfl,by decide,by decide⟩
 obtain ⟨most,em,mo0,mo1⟩ := em
 obtain ⟨h,x,eh,hw,hl⟩ := heavy_ok (x0 / 4) n most (by omega) (by omega) mo0 mo1
 have hl : h.length ≤ 40 := by omega
 refine Ws.seq (Ws.A (We.Fm (Was.cons (We.v rfl (Was.cons (We.e2 (We.L (Was.cons (We.c (Was.cons (We.c (Was.cons (We.c (Was.cons (We.c (Was.nil (WT.mk ?_ rfl rfl (by decide)))))))))))))))) rfl) (by decide))
 refine We.take (We.c (Wint.mk (take_go ?_ rfl (by first | (dsimp only [List.set]; first | done | rfl) | rfl) (by decide) (by decide)))) rfl
 refine Wg2.ix ?_ rfl rfl em
 refine Was.nil (WFm.any eh ?_ rfl rfl (by first | (dsimp only [List.set]; first | done | rfl) | rfl))
 refine WA.new ?_ (by first | (dsimp only [List.set]; first | done | rfl) | rfl)
 refine Ws.seq (Ws.A (We.B (Was.cons (We.w rfl (Was.nil (WB.list (xs := h.map hvD) ?_ rfl))))) (by decide))
 refine WA.new ?_ (by first | (dsimp only [List.set]; first | done | rfl) | rfl)
 by_cases hn : n = 1
 ·subst hn
  have e1 := lightest_one h hw hl
  refine Ws.DeepK (Was.cons (We.v rfl (Was.cons (We.w rfl (Was.nil ⟨_,_,_,e1,?_,rfl,(by unfold leafOk noLs; rfl),rfl⟩))))) (by decide)
  refine Wm.yesM (ρ' := RS (.lst (ns.map Dat.int)) x at_ 1 h (.sh (hsD h)) (.sh .non) (shC c7) (shC c8)) ?_ ?_ rfl
  ·exact Wt.V (We.e2 (We.v rfl (We.c (Wg2.eq (Wb.mk rfl) rfl rfl))))
  ·refine Wm.no (ρ' := RS (.lst (ns.map Dat.int)) x at_ 1 h (.sh (hsD h)) (.sh .non) (shC c7) (shC c8)) ?_ ?_ rfl
   ·exact Wt.V (We.e2 (We.v rfl (We.c ⟨_,_,_,rfl,rfl,rfl,Wb.mk rfl⟩)))
   ·exact Wm.fin ⟨.ct _,rfl,ct _ _ _ _ _ _ _⟩
 ·have n2 : 2 ≤ n := by omega
  obtain ⟨T,S,f,ef,eP,L⟩ := lightest_ok n n2 n10 h hw hl
  have ef : f_z13 [.int (n : Nat),hsD h] = some (.val (resD n T S f)) := ef
  have eP : fP_lightest [.int (n : Nat),hsD h] = some (resP n T S (rowF f 0)) := by rw [rowF_0]; exact eP
  have rt := right_ok n n2 n10 h hw hl T S f L
  have hf : ∀ j,j < n - 1 → (f j).length ≤ 100 := fun j hj => by rw [(L.fl j hj).1]; omega
  refine Ws.DeepK (Was.cons (We.v rfl (Was.cons (We.w rfl (Was.nil ⟨_,_,_,eP,?_,rfl,resP_ok _ _ _ _,rfl⟩))))) (by decide)
  refine Wm.noM ?_ ?_ (see_RE (.lst (ns.map Dat.int)) x at_ n h T S (rowF f 0) c7 c8)
  ·exact Wt.V (We.e2 (We.v rfl (We.c (Wg2.eq (Wb.mk (decide_eq_false (by omega))) rfl rfl))))
  refine Wm.no ?_ ?_ (see_RE (.lst (ns.map Dat.int)) x at_ n h T S (rowF f 0) c7 c8)
  ·rw [rowF_0]
   exact Wt.Not (Wt.V (We.F (Was.cons (We.v rfl (Was.cons (We.v rfl (Was.cons (We.v rfl (Was.nil (WF.val rt (Wb.mk rfl) rfl rfl))))))))))
  refine Wm.seq (Wc.Keep (q := resP n T S (rowF f 0)) ?_ ?_ (see_RE (.lst (ns.map Dat.int)) x at_ n h T S (rowF f 0) c7 c8) (resP_ok _ _ _ _) (resP_dat _ _ _ _) (by first | (dsimp only [List.set]; first | done | rfl) | rfl) (by decide))
  ·refine Wp'.T (Wpa.cons (Wp'.val (d := .int T) (We.e2 (We.v rfl (We.c (Wg2.ix (v := .int T) ⟨rfl,?_⟩ rfl rfl rfl))))))
   refine Wpa.cons (Wp'.val (d := tupI S) (We.e2 (We.v rfl (We.c (Wg2.ix (v := tupI S) ⟨rfl,?_⟩ rfl rfl rfl)))))
   refine Wpa.cons (Wp'.Comp (fun j : Nat => intL (rowF f 0 j)) (List.range (n - 1)) (fun j => flP (rowF f 0 j)) (fun ρ => ∃ c,ρ = RS (.lst (ns.map Dat.int)) x at_ n h (.sh (hsD h)) (.sh (resD n T S (rowF f 0))) (shC c7) (shC c8) ++ [c]) ?_ (by rw [List.length_range]; unfold SZ; omega) ⟨.un,rfl⟩ ?_ (fun ρ2 _ => Wpa.nil ⟨Nat.le_of_ble_eq_true rfl,rfl⟩))
   ·apply Wi.get
    exact Wi.S (We.e2 (We.v rfl (We.c (Wg2.ix (v := .lst ((List.range (n - 1)).map fun i => intL (rowF f 0 i))) (Wk.val ⟨_,rfl,rfl,rfl⟩) rfl rfl rfl))))
   ·rintro j hj ρ ⟨c,rfl⟩
    refine Dm.bind_go rfl (by first | (dsimp only [List.set]; first | done | rfl) | rfl) ?_
    refine Wp'.new (ds := (rowF f 0 j).map Dat.int) (We.B (Was.cons (We.v rfl (Was.nil (WB.list ⟨rfl,rfl,_,rfl⟩ rfl)))))
  have el : ((n : Int) - 1).toNat = n - 1 := by omega
  have eR : iR1 (e2 gSub (eV 2) (eC (.int 1))) (RE (.lst (ns.map Dat.int)) x at_ n h (.ow (hsD h)) .un (.sh (resD n T S (rowF f 0))) c8) = some ((List.range (n - 1)).map (fun j : Nat => Dat.int (0 + (j : Nat))),RE (.lst (ns.map Dat.int)) x at_ n h (.ow (hsD h)) .un (.sh (resD n T S (rowF f 0))) c8) := by
   apply Wi.get
   refine Wi.R1 (We.e2 (We.v rfl (We.c (Wg2.sub (Wint.mk ⟨⟨?_,rfl⟩,by unfold BIG; omega,by unfold BIG; omega⟩) rfl rfl))))
   rw [el]
   rfl
  refine Wm.seq (Wc.For eR ?_)
  refine Wc.inv (fun j : Nat => Dat.int (0 + (j : Nat))) _ _ (List.range (n - 1)) (fun l q ρ p => ∃ c8,ρ = RE (.lst (ns.map Dat.int)) x at_ n h (.ow (hsD h)) .un (.sh (resD n T S (rowF f 0))) c8 ∧ p = resP n T S (rowF f l.length)) ⟨_,rfl,rfl⟩ ?_ ?_
  ·rintro l j q ρ p e ⟨c8,rfl,rfl⟩
   obtain ⟨ej,jA⟩ := range_at' e
   rw [← ej]
   refine Dm.bind_go rfl (by first | (dsimp only [List.set]; first | done | rfl) | rfl) ?_
   unfold b0_z23
   refine Wc.seq (Wc.If ?_ (see_RE (.lst (ns.map Dat.int)) x at_ n h T S (rowF f j) _ _))
   refine Wt.V (We.e2 (We.e2 (We.e2 (We.v rfl (We.c (Wg2.ix (v := .lst ((List.range (n - 1)).map fun i => intL (rowF f j i))) (We.v rfl (Wg2.ix ?_ rfl rfl (row_ix n (rowF f j) jA))) rfl rfl rfl))))))
   refine We.e2 (We.e2 (We.v rfl (We.c (Wg2.ix (v := .lst ((List.range (n - 1)).map fun i => intL (rowF f 0 i))) (We.v rfl (Wg2.ix ?_ rfl rfl (row_ix n (rowF f 0) jA))) rfl rfl rfl))))
   have er : rowF f j j = rowF f 0 j := by unfold rowF; rw [if_neg (by omega),if_neg (by omega)]
   rw [er]
   refine Wg2.neI (N := rowF f 0 j) (M := rowF f 0 j) (Wb.mk (Wif.no (by rw [decide_eq_true rfl]; rfl) (Wc.nx ?_))) rfl rfl
   refine Wc.App2 (m0 := 2) (k := 0 + (j : Nat)) (d := .int 1) (We.v rfl rfl) (We.c rfl) ?_ (see_RE (.lst (ns.map Dat.int)) x at_ n h T S (rowF f j) _ _) rfl rfl rfl (rowsP_app n f hf j jA)
   refine ⟨_,rfl,?_⟩
   rw [List.length_append,List.length_singleton,← ej]
   rfl
  ·rintro ρ p ⟨c8,rfl,rfl⟩
   refine Wm.clr (m := 2) ?_ rfl rfl
   rw [rowF_0]
   exact rest_ok (.lst (ns.map Dat.int)) x at_ n h n2 n10 hw hl T S f ef c8 nx
theorem math (ns : List Int) (h : ns.length ≤ 63) : f_z23 [.lst (ns.map Dat.int)] = some (.val (.bl true)) := by
 apply Wr.eq
 unfold f_z23
 (refine Dm.Wr.fn ?_ rfl rfl; dsimp only [List.map,List.replicate,List.cons_append,List.nil_append])
 obtain ⟨x0,ep⟩ := pool_ok ns 0 (by decide)
 refine Ws.seq (Ws.A (We.F (Was.cons (We.v rfl (Was.cons (We.c (Was.nil (WF.box ep ?_ rfl rfl rfl rfl))))))) (by decide))
 refine WA.new ?_ (by first | (dsimp only [List.set]; first | done | rfl) | rfl)
 have m2 := emod_in x0 2 (by decide)
 have em : ∃ top : Int,gIx (.lst [.int 5,.int 10]) (.int (x0 % 2)) = some (.val (.int top)) ∧ 1 ≤ top ∧ top ≤ 10 := by
  rcases (by omega : x0 % 2 = 0 ∨ x0 % 2 = 1) with e | e
  ·rw [e]; exact ⟨5,rfl,by decide,by decide⟩
  ·rw [e]; exact ⟨10,rfl,by decide,by decide⟩
 obtain ⟨top,em,t1,t10⟩ := em
 refine Ws.seq (Ws.A (We.e2 (We.c (We.take (We.e2 (We.L (Was.cons (We.c (Was.cons (We.c (Was.nil (WT.mk ?_ rfl rfl (by decide))))))))) rfl))) (by decide))
 refine We.take (We.c (Wint.mk (take_go ?_ rfl (by first | (dsimp only [List.set]; first | done | rfl) | rfl) (by decide) (by decide)))) rfl
 refine Wg2.ix (Wint.mk (take_go ?_ rfl (by first | (dsimp only [List.set]; first | done | rfl) | rfl) (by omega) (by unfold B200; omega))) rfl rfl em
 have mt := emod_in (x0 / 2) top t1
 generalize x0 / 2 % top = t at mt
 refine Wg2.add ?_ rfl rfl
 refine WA.val ?_ (by first | (dsimp only [List.set]; first | done | rfl) | rfl)
 obtain ⟨n,en⟩ : ∃ n : Nat,1 + t = (n : Nat) := ⟨_,(Int.toNat_of_nonneg (by omega)).symm⟩
 rw [en]
 refine Ws.seq (Ws.For (Wi.R2 (We.c (Wint.mk (We.B (Was.cons (We.c (Was.cons (We.B (Was.cons (We.c (Was.cons (We.B (Was.cons (We.v rfl (Was.nil (WB.lenI (enc := Dat.int) (xs := ns) ?_ rfl)))))))))))))))))
 refine Was.nil (WB.min2 ?_ rfl)
 refine Was.nil (WB.max2 ?_ rfl)
 have hb : ∀ z : Int,z = (if (ns.length : Int) < 3 then (ns.length : Int) else 3) → (if z > 2 then z else 2) ≤ 3 ∧ 2 ≤ (if z > 2 then z else 2) := fun z hz => by
  rw [hz]
  constructor
  ·split <;> split <;> omega
  ·split <;> omega
 have hb := hb _ rfl
 generalize (if (if (ns.length : Int) < 3 then (ns.length : Int) else 3) > 2 then (if (ns.length : Int) < 3 then (ns.length : Int) else 3) else 2) = top' at hb ⊢
 refine Wint.mk ⟨?_,by unfold BIG; omega⟩
 refine Ws.inv (fun i : Nat => Dat.int (1 + (i : Nat))) _ _ (List.range (top' - 1).toNat) _ _ _ _ _ (fun p q ρ => ∃ c1 c3 c4 c5 c6 c7 c8 : Cell,ρ = [.sh (.lst (ns.map Dat.int)),c1,.sh (.int (n : Nat)),c3,c4,c5,c6,c7,c8]) ⟨_,_,_,_,_,_,_,rfl⟩ ?_ ?_
 ·rintro p i q ρ e ⟨c1,c3,c4,c5,c6,c7,c8,rfl⟩
  refine Dm.bind_go rfl (by first | (dsimp only [List.set]; first | done | rfl) | rfl) ?_
  exact round_ok ns n (by omega) (by omega) _ (by omega) _ _ _ _ _ _ (fun c1 c3 c4 c5 c6 c7 c8 => ⟨_,_,_,_,_,_,_,rfl⟩) fun c1 c3 c4 c5 c6 c7 c8 => ⟨_,_,_,_,_,_,_,rfl⟩
 ·rintro ρ ⟨c1,c3,c4,c5,c6,c7,c8,rfl⟩
  exact Ws.R (We.c rfl)
end P
set_option maxHeartbeats 4000000
namespace Q
open PySem L2 Br Dm P
def top (i : Nat) : Stmt := PySem.Challenge.pw_sinceply_k52_lightest_told.main.body.getD i (.Pass ⟨0,0,0,0⟩)
structure Txt (mg : Str → Option Value) (K : PySem.W.Frag) (base : Heap) (a_z0 a_z1 a_z2 a_z3 a_z4 a_z5 a_z6 a_z7 a_z8 a_z9 a_z10 a_z11 a_z12 a_z13 a_z14 a_z15 a_z16 a_z17 a_z18 a_z19 a_z20 a_z21 a_z22 a_z23 : Addr) : Prop where
 n_abs : mg "abs" = none
 n_all : mg "all" = none
 n_bool : mg "bool" = none
 n_enumerate : mg "enumerate" = none
 n_int : mg "int" = none
 n_isinstance : mg "isinstance" = none
 n_len : mg "len" = none
 n_list : mg "list" = none
 n_max : mg "max" = none
 n_min : mg "min" = none
 n_range : mg "range" = none
 n_sum : mg "sum" = none
 n_tuple : mg "tuple" = none
 n_zip : mg "zip" = none
 c_MOST_HEAVY_ex : ∃ t, mg "MOST_HEAVY" = some (.int 40 t)
 m_z0 : mg "shortest_ways" = some (.ref a_z0)
 m_z1 : mg "is_whole" = some (.ref a_z1)
 m_z2 : mg "is_within" = some (.ref a_z2)
 m_z3 : mg "is_places" = some (.ref a_z3)
 m_z4 : mg "is_place" = some (.ref a_z4)
 m_z5 : mg "is_pair" = some (.ref a_z5)
 m_z6 : mg "is_heavy_tie" = some (.ref a_z6)
 m_z7 : mg "look_at_places" = some (.ref a_z7)
 m_z8 : mg "look_at_heavy" = some (.ref a_z8)
 m_z9 : mg "side_weight" = some (.ref a_z9)
 m_z10 : mg "room" = some (.ref a_z10)
 m_z11 : mg "open_steps" = some (.ref a_z11)
 m_z12 : mg "flow_to" = some (.ref a_z12)
 m_z13 : mg "lightest" = some (.ref a_z13)
 m_z14 : mg "_law_cell_at" = some (.ref a_z14)
 m_z15 : mg "_law_pool" = some (.ref a_z15)
 m_z16 : mg "_law_take" = some (.ref a_z16)
 m_z17 : mg "_law_heavy" = some (.ref a_z17)
 m_z18 : mg "_law_whole" = some (.ref a_z18)
 m_z19 : mg "_law_weight" = some (.ref a_z19)
 m_z20 : mg "_law_is_side" = some (.ref a_z20)
 m_z21 : mg "_law_leads" = some (.ref a_z21)
 m_z22 : mg "_law_right" = some (.ref a_z22)
 m_z23 : mg "law" = some (.ref a_z23)
section
variable {P' : Program} {w : World} {K : PySem.W.Frag} {mg : Str → Option Value} {base : Heap} {a_z0 a_z1 a_z2 a_z3 a_z4 a_z5 a_z6 a_z7 a_z8 a_z9 a_z10 a_z11 a_z12 a_z13 a_z14 a_z15 a_z16 a_z17 a_z18 a_z19 a_z20 a_z21 a_z22 a_z23 : Addr}
theorem sc_z0 : FnScope ["steps", "a", "ways", "pending", "place", "step"] ["steps", "a"] (defScope (top 1)) := ⟨rfl, rfl, rfl, by decide +kernel, rfl, by decide +kernel, by decide +kernel⟩
theorem ok_z0 (T : Txt mg K base a_z0 a_z1 a_z2 a_z3 a_z4 a_z5 a_z6 a_z7 a_z8 a_z9 a_z10 a_z11 a_z12 a_z13 a_z14 a_z15 a_z16 a_z17 a_z18 a_z19 a_z20 a_z21 a_z22 a_z23) {fd : FuncData} (F : Fun K "shortest_ways" "shortest_ways" (top 1) a_z0 fd) :
  FnOk P' w K mg base CX0 1 a_z0 fd ["steps", "a"] (spD f_z0) := by
 refine F.ok sc_z0 (fun vs H Q E h => fn_len h) (fun cdv A outer s H vs Q E hr h => ?_)
 exact ⟨_,(s_cons (s_a 2 sc_z0.nd (d_d1 (d_v 1) (d_lst a_nil)))
  (s_cons (s_a 3 sc_z0.nd (d_lst (a_cons (d_v 1) a_nil)))
  (s_cons (s_wh 100 PassesOwn.never (t_tr (d_v 3))
  (s_cons (s_a 4 sc_z0.nd (d_popAt 3 d_i))
  (s_one (s_for PassesOwn.never rfl (i_S (d_ix (d_v 0) (d_v 4))) (g_n 5 sc_z0.nd)
  (s_one (s_if (t_dnin hr (d_ix (d_v 5) d_i) (d_v 2)) (s_cons (s_dput 2 hr (d_ix (d_v 5) d_i) (d_add (d_dx hr (d_v 2) (d_v 4)) (d_lst (a_cons (d_v 5) a_nil))))
  (s_one (s_app 3 (d_ix (d_v 5) d_i)))) s_nil))))))
  (s_one (s_r (d_v 2)))))),r_fn (n := 2) (m := 4) rfl h⟩
theorem sc_z1 : FnScope ["thing"] ["thing"] (defScope (top 7)) := ⟨rfl, rfl, rfl, by decide +kernel, rfl, by decide +kernel, by decide +kernel⟩
theorem ok_z1 (T : Txt mg K base a_z0 a_z1 a_z2 a_z3 a_z4 a_z5 a_z6 a_z7 a_z8 a_z9 a_z10 a_z11 a_z12 a_z13 a_z14 a_z15 a_z16 a_z17 a_z18 a_z19 a_z20 a_z21 a_z22 a_z23) {fd : FuncData} (F : Fun K "is_whole" "is_whole" (top 7) a_z1 fd) :
  FnOk P' w K mg base CX0 1 a_z1 fd ["thing"] (spD f_z1) := by
 refine F.ok sc_z1 (fun vs H Q E h => fn_len h) (fun cdv A outer s H vs Q E hr h => ?_)
 exact ⟨_,(s_one (s_r (d_and (d_isi kit_int (by rfl) rfl T.n_int rfl T.n_isinstance (d_v 0)) (d_one (d_not (d_isi kit_bool (by rfl) rfl T.n_bool rfl T.n_isinstance (d_v 0))))))),r_fn (n := 1) (m := 0) rfl h⟩
theorem sc_z2 : FnScope ["thing", "low", "high"] ["thing", "low", "high"] (defScope (top 8)) := ⟨rfl, rfl, rfl, by decide +kernel, rfl, by decide +kernel, by decide +kernel⟩
theorem ok_z2 (T : Txt mg K base a_z0 a_z1 a_z2 a_z3 a_z4 a_z5 a_z6 a_z7 a_z8 a_z9 a_z10 a_z11 a_z12 a_z13 a_z14 a_z15 a_z16 a_z17 a_z18 a_z19 a_z20 a_z21 a_z22 a_z23) {fd : FuncData} (F : Fun K "is_within" "is_within" (top 8) a_z2 fd) {fd_z1 : FuncData} (F_z1 : Fun K "is_whole" "is_whole" (top 7) a_z1 fd_z1) (b_z1 : Binds K fd_z1 ["thing"] []) (G_z1 : FnOk P' w K mg base CX0 1 a_z1 fd_z1 ["thing"] (spD f_z1)) :
  FnOk P' w K mg base CX0 2 a_z2 fd ["thing", "low", "high"] (spD f_z2) := by
 refine F.ok sc_z2 (fun vs H Q E h => fn_len h) (fun cdv A outer s H vs Q E hr h => ?_)
 exact ⟨_,(s_one (s_r (d_and (d_call G_z1 (hr.mono (by decide)) rfl T.m_z1 F_z1.kp b_z1 (a_cons (d_v 0) a_nil)) (d_one (d_chain op_le od_le op_le od_le (d_v 1) (d_v 0) (d_v 2)))))),r_fn (n := 3) (m := 0) rfl h⟩
theorem sc_z3 : FnScope ["thing"] ["thing"] (defScope (top 9)) := ⟨rfl, rfl, rfl, by decide +kernel, rfl, by decide +kernel, by decide +kernel⟩
theorem ok_z3 (T : Txt mg K base a_z0 a_z1 a_z2 a_z3 a_z4 a_z5 a_z6 a_z7 a_z8 a_z9 a_z10 a_z11 a_z12 a_z13 a_z14 a_z15 a_z16 a_z17 a_z18 a_z19 a_z20 a_z21 a_z22 a_z23) {fd : FuncData} (F : Fun K "is_places" "is_places" (top 9) a_z3 fd) {fd_z2 : FuncData} (F_z2 : Fun K "is_within" "is_within" (top 8) a_z2 fd_z2) (b_z2 : Binds K fd_z2 ["thing", "low", "high"] []) (G_z2 : FnOk P' w K mg base CX0 2 a_z2 fd_z2 ["thing", "low", "high"] (spD f_z2)) :
  FnOk P' w K mg base CX0 3 a_z3 fd ["thing"] (spD f_z3) := by
 refine F.ok sc_z3 (fun vs H Q E h => fn_len h) (fun cdv A outer s H vs Q E hr h => ?_)
 exact ⟨_,(s_one (s_r (d_call G_z2 (hr.mono (by decide)) rfl T.m_z2 F_z2.kp b_z2 (a_cons (d_v 0) (a_cons d_i (a_cons d_i a_nil)))))),r_fn (n := 1) (m := 0) rfl h⟩
theorem sc_z4 : FnScope ["n", "thing"] ["n", "thing"] (defScope (top 10)) := ⟨rfl, rfl, rfl, by decide +kernel, rfl, by decide +kernel, by decide +kernel⟩
theorem ok_z4 (T : Txt mg K base a_z0 a_z1 a_z2 a_z3 a_z4 a_z5 a_z6 a_z7 a_z8 a_z9 a_z10 a_z11 a_z12 a_z13 a_z14 a_z15 a_z16 a_z17 a_z18 a_z19 a_z20 a_z21 a_z22 a_z23) {fd : FuncData} (F : Fun K "is_place" "is_place" (top 10) a_z4 fd) {fd_z2 : FuncData} (F_z2 : Fun K "is_within" "is_within" (top 8) a_z2 fd_z2) (b_z2 : Binds K fd_z2 ["thing", "low", "high"] []) (G_z2 : FnOk P' w K mg base CX0 2 a_z2 fd_z2 ["thing", "low", "high"] (spD f_z2)) :
  FnOk P' w K mg base CX0 3 a_z4 fd ["n", "thing"] (spD f_z4) := by
 refine F.ok sc_z4 (fun vs H Q E h => fn_len h) (fun cdv A outer s H vs Q E hr h => ?_)
 exact ⟨_,(s_one (s_r (d_call G_z2 (hr.mono (by decide)) rfl T.m_z2 F_z2.kp b_z2 (a_cons (d_v 1) (a_cons d_i (a_cons (d_sub (d_v 0) d_i) a_nil)))))),r_fn (n := 2) (m := 0) rfl h⟩
theorem sc_z5 : FnScope ["n", "a", "b"] ["n", "a", "b"] (defScope (top 12)) := ⟨rfl, rfl, rfl, by decide +kernel, rfl, by decide +kernel, by decide +kernel⟩
theorem ok_z5 (T : Txt mg K base a_z0 a_z1 a_z2 a_z3 a_z4 a_z5 a_z6 a_z7 a_z8 a_z9 a_z10 a_z11 a_z12 a_z13 a_z14 a_z15 a_z16 a_z17 a_z18 a_z19 a_z20 a_z21 a_z22 a_z23) {fd : FuncData} (F : Fun K "is_pair" "is_pair" (top 12) a_z5 fd) {fd_z4 : FuncData} (F_z4 : Fun K "is_place" "is_place" (top 10) a_z4 fd_z4) (b_z4 : Binds K fd_z4 ["n", "thing"] []) (G_z4 : FnOk P' w K mg base CX0 3 a_z4 fd_z4 ["n", "thing"] (spD f_z4)) :
  FnOk P' w K mg base CX0 4 a_z5 fd ["n", "a", "b"] (spD f_z5) := by
 refine F.ok sc_z5 (fun vs H Q E h => fn_len h) (fun cdv A outer s H vs Q E hr h => ?_)
 exact ⟨_,(s_one (s_r (d_and (d_call G_z4 (hr.mono (by decide)) rfl T.m_z4 F_z4.kp b_z4 (a_cons (d_v 0) (a_cons (d_v 1) a_nil))) (d_and (d_call G_z4 (hr.mono (by decide)) rfl T.m_z4 F_z4.kp b_z4 (a_cons (d_v 0) (a_cons (d_v 2) a_nil))) (d_one (d_ne hr (d_v 1) (d_v 2))))))),r_fn (n := 3) (m := 0) rfl h⟩
theorem sc_z6 : FnScope ["n", "thing"] ["n", "thing"] (defScope (top 11)) := ⟨rfl, rfl, rfl, by decide +kernel, rfl, by decide +kernel, by decide +kernel⟩
theorem ok_z6 (T : Txt mg K base a_z0 a_z1 a_z2 a_z3 a_z4 a_z5 a_z6 a_z7 a_z8 a_z9 a_z10 a_z11 a_z12 a_z13 a_z14 a_z15 a_z16 a_z17 a_z18 a_z19 a_z20 a_z21 a_z22 a_z23) {fd : FuncData} (F : Fun K "is_heavy_tie" "is_heavy_tie" (top 11) a_z6 fd) {fd_z2 : FuncData} (F_z2 : Fun K "is_within" "is_within" (top 8) a_z2 fd_z2) (b_z2 : Binds K fd_z2 ["thing", "low", "high"] []) (G_z2 : FnOk P' w K mg base CX0 2 a_z2 fd_z2 ["thing", "low", "high"] (spD f_z2)) {fd_z5 : FuncData} (F_z5 : Fun K "is_pair" "is_pair" (top 12) a_z5 fd_z5) (b_z5 : Binds K fd_z5 ["n", "a", "b"] []) (G_z5 : FnOk P' w K mg base CX0 4 a_z5 fd_z5 ["n", "a", "b"] (spD f_z5)) :
  FnOk P' w K mg base CX0 5 a_z6 fd ["n", "thing"] (spD f_z6) := by
 refine F.ok sc_z6 (fun vs H Q E h => fn_len h) (fun cdv A outer s H vs Q E hr h => ?_)
 exact ⟨_,(s_cons (s_if (t_w (w_or (t_not (t_val (d_isi kit_tuple (by rfl) rfl T.n_tuple rfl T.n_isinstance (d_v 1)))) (w_or1 (t_ne hr (d_len rfl T.n_len (a_cons (d_v 1) a_nil)) d_i)))) (s_one (s_r d_b)) s_nil)
  (s_one (s_r (d_and (d_call G_z5 (hr.mono (by decide)) rfl T.m_z5 F_z5.kp b_z5 (a_cons (d_v 0) (a_cons (d_ix (d_v 1) d_i) (a_cons (d_ix (d_v 1) d_i) a_nil)))) (d_and (d_lt (d_ix (d_v 1) d_i) (d_ix (d_v 1) d_i)) (d_one (d_call G_z2 (hr.mono (by decide)) rfl T.m_z2 F_z2.kp b_z2 (a_cons (d_ix (d_v 1) d_i) (a_cons d_i (a_cons (d_pow d_i d_i) a_nil)))))))))),r_fn (n := 2) (m := 0) rfl h⟩
theorem sc_z7 : FnScope ["n"] ["n"] (defScope (top 13)) := ⟨rfl, rfl, rfl, by decide +kernel, rfl, by decide +kernel, by decide +kernel⟩
theorem ok_z7 (T : Txt mg K base a_z0 a_z1 a_z2 a_z3 a_z4 a_z5 a_z6 a_z7 a_z8 a_z9 a_z10 a_z11 a_z12 a_z13 a_z14 a_z15 a_z16 a_z17 a_z18 a_z19 a_z20 a_z21 a_z22 a_z23) {fd : FuncData} (F : Fun K "look_at_places" "look_at_places" (top 13) a_z7 fd) {fd_z3 : FuncData} (F_z3 : Fun K "is_places" "is_places" (top 9) a_z3 fd_z3) (b_z3 : Binds K fd_z3 ["thing"] []) (G_z3 : FnOk P' w K mg base CX0 3 a_z3 fd_z3 ["thing"] (spD f_z3)) :
  FnOk P' w K mg base CX0 4 a_z7 fd ["n"] (spD f_z7) := by
 refine F.ok sc_z7 (fun vs H Q E h => fn_len h) (fun cdv A outer s H vs Q E hr h => ?_)
 exact ⟨_,(s_one (s_if (t_not (t_val (d_call G_z3 (hr.mono (by decide)) rfl T.m_z3 F_z3.kp b_z3 (a_cons (d_v 0) a_nil)))) (s_one s_never) s_nil)),r_fn (n := 1) (m := 0) rfl h⟩
theorem sc_z8 : FnScope ["n", "heavy"] ["n", "heavy"] (defScope (top 16)) := ⟨rfl, rfl, rfl, by decide +kernel, rfl, by decide +kernel, by decide +kernel⟩
theorem nd0_z8 : (["n", "heavy", "tie"] : List Str).Nodup := by decide +kernel
theorem ok_z8 (T : Txt mg K base a_z0 a_z1 a_z2 a_z3 a_z4 a_z5 a_z6 a_z7 a_z8 a_z9 a_z10 a_z11 a_z12 a_z13 a_z14 a_z15 a_z16 a_z17 a_z18 a_z19 a_z20 a_z21 a_z22 a_z23) {fd : FuncData} (F : Fun K "look_at_heavy" "look_at_heavy" (top 16) a_z8 fd) {fd_z6 : FuncData} (F_z6 : Fun K "is_heavy_tie" "is_heavy_tie" (top 11) a_z6 fd_z6) (b_z6 : Binds K fd_z6 ["n", "thing"] []) (G_z6 : FnOk P' w K mg base CX0 5 a_z6 fd_z6 ["n", "thing"] (spD f_z6)) {fd_z7 : FuncData} (F_z7 : Fun K "look_at_places" "look_at_places" (top 13) a_z7 fd_z7) (b_z7 : Binds K fd_z7 ["n"] []) (G_z7 : FnOk P' w K mg base CX0 4 a_z7 fd_z7 ["n"] (spD f_z7)) :
  FnOk P' w K mg base CX0 6 a_z8 fd ["n", "heavy"] (spD f_z8) := by
 refine F.ok sc_z8 (fun vs H Q E h => fn_len h) (fun cdv A outer s H vs Q E hr h => ?_)
 obtain ⟨tk_MOST_HEAVY,e_MOST_HEAVY⟩ := T.c_MOST_HEAVY_ex
 exact ⟨_,(s_cons (s_e (d_call G_z7 (hr.mono (by decide)) rfl T.m_z7 F_z7.kp b_z7 (a_cons (d_v 0) a_nil)))
  (s_cons (s_if (t_w (w_or (t_not (t_val (d_isi kit_list (by rfl) rfl T.n_list rfl T.n_isinstance (d_v 1)))) (w_or1 (t_gt (d_len rfl T.n_len (a_cons (d_v 1) a_nil)) (d_g rfl e_MOST_HEAVY))))) (s_one s_never) s_nil)
  (s_one (s_if (t_not (t_val (d_all rfl rfl T.n_all (a_cons (d_cpM 1 ["n", "heavy"] ["tie"] (c_n 2 nd0_z8 rfl rfl) (d_v 1) (fun _ _ _ _ _ => ts_nil) (fun _ _ _ _ _ => (d_call G_z6 (hr.mono (by decide)) rfl T.m_z6 F_z6.kp b_z6 (a_cons (d_v 0) (a_cons (d_v 2) a_nil))))) a_nil)))) (s_one s_never) s_nil)))), r_fn (n := 2) (m := 0) rfl h⟩
theorem sc_z9 : FnScope ["heavy", "side"] ["heavy", "side"] (defScope (top 18)) := ⟨rfl, rfl, rfl, by decide +kernel, rfl, by decide +kernel, by decide +kernel⟩
theorem nd0_z9 : (["heavy", "side", "a", "b", "weight"] : List Str).Nodup := by decide +kernel
theorem ok_z9 (T : Txt mg K base a_z0 a_z1 a_z2 a_z3 a_z4 a_z5 a_z6 a_z7 a_z8 a_z9 a_z10 a_z11 a_z12 a_z13 a_z14 a_z15 a_z16 a_z17 a_z18 a_z19 a_z20 a_z21 a_z22 a_z23) {fd : FuncData} (F : Fun K "side_weight" "side_weight" (top 18) a_z9 fd) :
  FnOk P' w K mg base CX0 1 a_z9 fd ["heavy", "side"] (spD f_z9) := by
 refine F.ok sc_z9 (fun vs H Q E h => fn_len h) (fun cdv A outer s H vs Q E hr h => ?_)
 exact ⟨_, (s_one (s_r (d_sumL rfl rfl T.n_sum (a_cons (d_cpM 0 ["heavy", "side"] ["a", "b", "weight"] (c_t rfl (fun _ _ _ _ _ => (gs_cons 2 nd0_z9 (gs_cons 3 nd0_z9 (gs_cons 4 nd0_z9 gs_nil))))) (d_v 0) (fun _ _ _ _ _ => ts_one (t_ne hr (d_in hr (d_v 2) (d_v 1)) (d_in hr (d_v 3) (d_v 1)))) (fun _ _ _ _ _ => (d_v 4))) a_nil)))), r_fn (n := 2) (m := 0) rfl h⟩
theorem sc_z10 : FnScope ["heavy", "flow", "push"] ["heavy", "flow", "push"] (defScope (top 22)) := ⟨rfl, rfl, rfl, by decide +kernel, rfl, by decide +kernel, by decide +kernel⟩
theorem ok_z10 (T : Txt mg K base a_z0 a_z1 a_z2 a_z3 a_z4 a_z5 a_z6 a_z7 a_z8 a_z9 a_z10 a_z11 a_z12 a_z13 a_z14 a_z15 a_z16 a_z17 a_z18 a_z19 a_z20 a_z21 a_z22 a_z23) {fd : FuncData} (F : Fun K "room" "room" (top 22) a_z10 fd) :
  FnOk P' w K mg base CX0 1 a_z10 fd ["heavy", "flow", "push"] (spD f_z10) := by
 refine F.ok sc_z10 (fun vs H Q E h => fn_len h) (fun cdv A outer s H vs Q E hr h => ?_)
 exact ⟨_,(s_one (s_r (d_sub (d_ix (d_ix (d_v 0) (d_ix (d_v 2) d_i)) d_i) (d_mul (d_ix (d_v 2) d_i) (d_ix (d_v 1) (d_ix (d_v 2) d_i)))))),r_fn (n := 3) (m := 0) rfl h⟩
theorem sc_z11 : FnScope ["n", "heavy", "flow", "steps", "at", "tie"] ["n", "heavy", "flow"] (defScope (top 21)) := ⟨rfl, rfl, rfl, by decide +kernel, rfl, by decide +kernel, by decide +kernel⟩
theorem nd0_z11 : (["n", "heavy", "flow", "steps", "at", "tie", "place"] : List Str).Nodup := by decide +kernel
theorem nd1_z11 : (["n", "heavy", "flow", "steps", "at", "tie", "place"] : List Str).Nodup := by decide +kernel
theorem ok_z11 (T : Txt mg K base a_z0 a_z1 a_z2 a_z3 a_z4 a_z5 a_z6 a_z7 a_z8 a_z9 a_z10 a_z11 a_z12 a_z13 a_z14 a_z15 a_z16 a_z17 a_z18 a_z19 a_z20 a_z21 a_z22 a_z23) {fd : FuncData} (F : Fun K "open_steps" "open_steps" (top 21) a_z11 fd) {fd_z10 : FuncData} (F_z10 : Fun K "room" "room" (top 22) a_z10 fd_z10) (b_z10 : Binds K fd_z10 ["heavy", "flow", "push"] []) (G_z10 : FnOk P' w K mg base CX0 1 a_z10 fd_z10 ["heavy", "flow", "push"] (spD f_z10)) :
  FnOk P' w K mg base CX0 2 a_z11 fd ["n", "heavy", "flow"] (spD f_z11) := by
 refine F.ok sc_z11 (fun vs H Q E h => fn_len h) (fun cdv A outer s H vs Q E hr h => ?_)
 exact ⟨_, (s_nest 3 ["n", "heavy", "flow", "steps", "at", "tie"] ["place"] sc_z11.nd (c_n 6 nd0_z11 rfl rfl) (i_R1 rfl T.n_range (a_cons (d_v 0) a_nil)) (n_for PassesOwn.never rfl (i_En rfl T.n_enumerate (d_v 1)) (g_t rfl (gs_cons 4 sc_z11.nd (gs_cons 5 sc_z11.nd gs_nil)))
  (n_cons (n_if (t_gt (d_call G_z10 (hr.mono (by decide)) rfl T.m_z10 F_z10.kp b_z10 (a_cons (d_v 1) (a_cons (d_v 2) (a_cons (d_tup (a_cons (d_v 4) (a_cons d_i a_nil))) a_nil)))) d_i) (n_one (n_app (d_ix (d_v 5) d_i) (d_tup (a_cons (d_tup (a_cons (d_v 4) (a_cons d_i a_nil))) (a_cons (d_ix (d_v 5) d_i) a_nil))))) n_nil)
  (n_one (n_if (t_gt (d_call G_z10 (hr.mono (by decide)) rfl T.m_z10 F_z10.kp b_z10 (a_cons (d_v 1) (a_cons (d_v 2) (a_cons (d_tup (a_cons (d_v 4) (a_cons (d_neg d_i) a_nil))) a_nil)))) d_i) (n_one (n_app (d_ix (d_v 5) d_i) (d_tup (a_cons (d_tup (a_cons (d_v 4) (a_cons (d_neg d_i) a_nil))) (a_cons (d_ix (d_v 5) d_i) a_nil))))) n_nil))))
  (s_one (s_r (d_v 3)))),r_fn (n := 3) (m := 3) rfl h⟩
theorem okP_open_steps (T : Txt mg K base a_z0 a_z1 a_z2 a_z3 a_z4 a_z5 a_z6 a_z7 a_z8 a_z9 a_z10 a_z11 a_z12 a_z13 a_z14 a_z15 a_z16 a_z17 a_z18 a_z19 a_z20 a_z21 a_z22 a_z23) {fd : FuncData} (F : Fun K "open_steps" "open_steps" (top 21) a_z11 fd) {fd_z10 : FuncData} (F_z10 : Fun K "room" "room" (top 22) a_z10 fd_z10) (b_z10 : Binds K fd_z10 ["heavy", "flow", "push"] []) (G_z10 : FnOk P' w K mg base CX0 1 a_z10 fd_z10 ["heavy", "flow", "push"] (spD f_z10)) :
  FnOk P' w K mg base CX0 2 a_z11 fd ["n", "heavy", "flow"] (spP fP_open_steps) := by
 refine F.ok sc_z11 (fun vs H Q E h => fnP_len h) (fun cdv A outer s H vs Q E hr h => ?_)
 exact ⟨_, (q_nest 3 ["n", "heavy", "flow", "steps", "at", "tie"] ["place"] sc_z11.nd (c_n 6 nd1_z11 rfl rfl) (i_R1 rfl T.n_range (a_cons (d_v 0) a_nil)) (n_for PassesOwn.never rfl (i_En rfl T.n_enumerate (d_v 1)) (g_t rfl (gs_cons 4 sc_z11.nd (gs_cons 5 sc_z11.nd gs_nil)))
  (n_cons (n_if (t_gt (d_call G_z10 (hr.mono (by decide)) rfl T.m_z10 F_z10.kp b_z10 (a_cons (d_v 1) (a_cons (d_v 2) (a_cons (d_tup (a_cons (d_v 4) (a_cons d_i a_nil))) a_nil)))) d_i) (n_one (n_app (d_ix (d_v 5) d_i) (d_tup (a_cons (d_tup (a_cons (d_v 4) (a_cons d_i a_nil))) (a_cons (d_ix (d_v 5) d_i) a_nil))))) n_nil)
  (n_one (n_if (t_gt (d_call G_z10 (hr.mono (by decide)) rfl T.m_z10 F_z10.kp b_z10 (a_cons (d_v 1) (a_cons (d_v 2) (a_cons (d_tup (a_cons (d_v 4) (a_cons (d_neg d_i) a_nil))) a_nil)))) d_i) (n_one (n_app (d_ix (d_v 5) d_i) (d_tup (a_cons (d_tup (a_cons (d_v 4) (a_cons (d_neg d_i) a_nil))) (a_cons (d_ix (d_v 5) d_i) a_nil))))) n_nil))))),r_fnP (n := 3) (m := 3) rfl h⟩
theorem sc_z12 : FnScope ["n", "heavy", "place", "most", "flow", "total", "reached", "pushes", "amount", "at", "sign"] ["n", "heavy", "place", "most"] (defScope (top 20)) := ⟨rfl, rfl, rfl, by decide +kernel, rfl, by decide +kernel, by decide +kernel⟩
theorem nd0_z12 : (["n", "heavy", "place", "most", "flow", "total", "reached", "pushes", "amount", "at", "sign", "tie"] : List Str).Nodup := by decide +kernel
theorem nd1_z12 : (["n", "heavy", "place", "most", "flow", "total", "reached", "pushes", "amount", "at", "sign", "step"] : List Str).Nodup := by decide +kernel
theorem nd2_z12 : (["n", "heavy", "place", "most", "flow", "total", "reached", "pushes", "amount", "at", "sign", "push"] : List Str).Nodup := by decide +kernel
theorem nd3_z12 : (["n", "heavy", "place", "most", "flow", "total", "reached", "pushes", "amount", "at", "sign", "other"] : List Str).Nodup := by decide +kernel
theorem nd4_z12 : (["n", "heavy", "place", "most", "flow", "total", "reached", "pushes", "amount", "at", "sign", "tie"] : List Str).Nodup := by decide +kernel
theorem nd5_z12 : (["n", "heavy", "place", "most", "flow", "total", "reached", "pushes", "amount", "at", "sign", "step"] : List Str).Nodup := by decide +kernel
theorem nd6_z12 : (["n", "heavy", "place", "most", "flow", "total", "reached", "pushes", "amount", "at", "sign", "push"] : List Str).Nodup := by decide +kernel
theorem nd7_z12 : (["n", "heavy", "place", "most", "flow", "total", "reached", "pushes", "amount", "at", "sign", "other"] : List Str).Nodup := by decide +kernel
theorem ok_z12 (T : Txt mg K base a_z0 a_z1 a_z2 a_z3 a_z4 a_z5 a_z6 a_z7 a_z8 a_z9 a_z10 a_z11 a_z12 a_z13 a_z14 a_z15 a_z16 a_z17 a_z18 a_z19 a_z20 a_z21 a_z22 a_z23) {fd : FuncData} (F : Fun K "flow_to" "flow_to" (top 20) a_z12 fd) {fd_z0 : FuncData} (F_z0 : Fun K "shortest_ways" "shortest_ways" (top 1) a_z0 fd_z0) (b_z0 : Binds K fd_z0 ["steps", "a"] []) (G_z0 : FnOk P' w K mg base CX0 1 a_z0 fd_z0 ["steps", "a"] (spD f_z0)) {fd_z10 : FuncData} (F_z10 : Fun K "room" "room" (top 22) a_z10 fd_z10) (b_z10 : Binds K fd_z10 ["heavy", "flow", "push"] []) (G_z10 : FnOk P' w K mg base CX0 1 a_z10 fd_z10 ["heavy", "flow", "push"] (spD f_z10)) {fd_z11 : FuncData} (F_z11 : Fun K "open_steps" "open_steps" (top 21) a_z11 fd_z11) (b_z11 : Binds K fd_z11 ["n", "heavy", "flow"] []) (G_z11 : FnOk P' w K mg base CX0 2 a_z11 fd_z11 ["n", "heavy", "flow"] (spD f_z11)) (GP_open_steps : FnOk P' w K mg base CX0 2 a_z11 fd_z11 ["n", "heavy", "flow"] (spP fP_open_steps)) :
  FnOk P' w K mg base CX0 3 a_z12 fd ["n", "heavy", "place", "most"] (spD f_z12) := by
 refine F.ok sc_z12 (fun vs H Q E h => fn_len h) (fun cdv A outer s H vs Q E hr h => ?_)
 exact ⟨_, (s_cons (s_a 4 sc_z12.nd (d_cpM 1 ["n", "heavy", "place", "most", "flow", "total", "reached", "pushes", "amount", "at", "sign"] ["tie"] (c_n 11 nd0_z12 rfl rfl) (d_v 1) (fun _ _ _ _ _ => ts_nil) (fun _ _ _ _ _ => d_i)))
  (s_cons (s_a 5 sc_z12.nd d_i)
  (s_cons (s_a 6 sc_z12.nd (d_call G_z0 (hr.mono (by decide)) rfl T.m_z0 F_z0.kp b_z0 (a_cons (d_callFP GP_open_steps (hr.mono (by decide)) rfl T.m_z11 F_z11.kp b_z11 (a_cons (d_v 0) (a_cons (d_v 1) (a_cons (d_v 4) a_nil)))) (a_cons d_i a_nil))))
  (s_cons (s_wh 10000000000000000000000000000000000000000 PassesOwn.never (t_w (w_and (t_lt (d_v 5) (d_v 3)) (w_and1 (t_din hr (d_v 2) (d_v 6)))))
  (s_cons (s_cp 7 ["n", "heavy", "place", "most", "flow", "total", "reached", "pushes", "amount", "at", "sign"] ["step"] sc_z12.nd (c_n 11 nd1_z12 rfl rfl) (i_S (d_dx hr (d_v 6) (d_v 2))) (fun _ _ _ _ _ => ts_nil) (fun _ _ _ _ _ => (d_ix (d_v 11) d_i)))
  (s_cons (s_a 8 sc_z12.nd (d_minL rfl rfl T.n_min (a_cons (d_add (d_cpM 7 ["n", "heavy", "place", "most", "flow", "total", "reached", "pushes", "amount", "at", "sign"] ["push"] (c_n 11 nd2_z12 rfl rfl) (d_v 7) (fun _ _ _ _ _ => ts_nil) (fun _ _ _ _ _ => (d_call G_z10 (hr.mono (by decide)) rfl T.m_z10 F_z10.kp b_z10 (a_cons (d_v 1) (a_cons (d_v 4) (a_cons (d_v 11) a_nil)))))) (d_lst (a_cons (d_sub (d_v 3) (d_v 5)) a_nil))) a_nil)))
  (s_cons (s_for PassesOwn.never rfl (i_S (d_v 7)) (g_t rfl (gs_cons 9 sc_z12.nd (gs_cons 10 sc_z12.nd gs_nil)))
  (s_one (s_set 4 (d_v 9) (d_add (d_ix (d_v 4) (d_v 9)) (d_mul (d_v 10) (d_v 8))))))
  (s_cons (s_a 5 sc_z12.nd (d_add (d_v 5) (d_v 8)))
  (s_one (s_a 6 sc_z12.nd (d_call G_z0 (hr.mono (by decide)) rfl T.m_z0 F_z0.kp b_z0 (a_cons (d_callFP GP_open_steps (hr.mono (by decide)) rfl T.m_z11 F_z11.kp b_z11 (a_cons (d_v 0) (a_cons (d_v 1) (a_cons (d_v 4) a_nil)))) (a_cons d_i a_nil))))))))))
  (s_one (s_r (d_tup (a_cons (d_v 5) (a_cons (d_v 4) (a_cons (d_tuple rfl T.n_tuple (a_cons (d_cp ["n", "heavy", "place", "most", "flow", "total", "reached", "pushes", "amount", "at", "sign"] ["other"] (c_n 11 nd3_z12 rfl rfl) (i_R1 rfl T.n_range (a_cons (d_v 0) a_nil)) (fun _ _ _ _ _ => ts_one (t_dnin hr (d_v 11) (d_v 6))) (fun _ _ _ _ _ => (d_v 11))) a_nil)) a_nil)))))))))), r_fn (n := 4) (m := 7) rfl h⟩
theorem okP_flow_to (T : Txt mg K base a_z0 a_z1 a_z2 a_z3 a_z4 a_z5 a_z6 a_z7 a_z8 a_z9 a_z10 a_z11 a_z12 a_z13 a_z14 a_z15 a_z16 a_z17 a_z18 a_z19 a_z20 a_z21 a_z22 a_z23) {fd : FuncData} (F : Fun K "flow_to" "flow_to" (top 20) a_z12 fd) {fd_z0 : FuncData} (F_z0 : Fun K "shortest_ways" "shortest_ways" (top 1) a_z0 fd_z0) (b_z0 : Binds K fd_z0 ["steps", "a"] []) (G_z0 : FnOk P' w K mg base CX0 1 a_z0 fd_z0 ["steps", "a"] (spD f_z0)) {fd_z10 : FuncData} (F_z10 : Fun K "room" "room" (top 22) a_z10 fd_z10) (b_z10 : Binds K fd_z10 ["heavy", "flow", "push"] []) (G_z10 : FnOk P' w K mg base CX0 1 a_z10 fd_z10 ["heavy", "flow", "push"] (spD f_z10)) {fd_z11 : FuncData} (F_z11 : Fun K "open_steps" "open_steps" (top 21) a_z11 fd_z11) (b_z11 : Binds K fd_z11 ["n", "heavy", "flow"] []) (G_z11 : FnOk P' w K mg base CX0 2 a_z11 fd_z11 ["n", "heavy", "flow"] (spD f_z11)) (GP_open_steps : FnOk P' w K mg base CX0 2 a_z11 fd_z11 ["n", "heavy", "flow"] (spP fP_open_steps)) :
  FnOk P' w K mg base CX0 3 a_z12 fd ["n", "heavy", "place", "most"] (spP fP_flow_to) := by
 refine F.ok sc_z12 (fun vs H Q E h => fnP_len h) (fun cdv A outer s H vs Q E hr h => ?_)
 exact ⟨_, (q_cons (s_a 4 sc_z12.nd (d_cpM 1 ["n", "heavy", "place", "most", "flow", "total", "reached", "pushes", "amount", "at", "sign"] ["tie"] (c_n 11 nd4_z12 rfl rfl) (d_v 1) (fun _ _ _ _ _ => ts_nil) (fun _ _ _ _ _ => d_i)))
  (q_cons (s_a 5 sc_z12.nd d_i)
  (q_cons (s_a 6 sc_z12.nd (d_call G_z0 (hr.mono (by decide)) rfl T.m_z0 F_z0.kp b_z0 (a_cons (d_callFP GP_open_steps (hr.mono (by decide)) rfl T.m_z11 F_z11.kp b_z11 (a_cons (d_v 0) (a_cons (d_v 1) (a_cons (d_v 4) a_nil)))) (a_cons d_i a_nil))))
  (q_cons (s_wh 10000000000000000000000000000000000000000 PassesOwn.never (t_w (w_and (t_lt (d_v 5) (d_v 3)) (w_and1 (t_din hr (d_v 2) (d_v 6)))))
  (s_cons (s_cp 7 ["n", "heavy", "place", "most", "flow", "total", "reached", "pushes", "amount", "at", "sign"] ["step"] sc_z12.nd (c_n 11 nd5_z12 rfl rfl) (i_S (d_dx hr (d_v 6) (d_v 2))) (fun _ _ _ _ _ => ts_nil) (fun _ _ _ _ _ => (d_ix (d_v 11) d_i)))
  (s_cons (s_a 8 sc_z12.nd (d_minL rfl rfl T.n_min (a_cons (d_add (d_cpM 7 ["n", "heavy", "place", "most", "flow", "total", "reached", "pushes", "amount", "at", "sign"] ["push"] (c_n 11 nd6_z12 rfl rfl) (d_v 7) (fun _ _ _ _ _ => ts_nil) (fun _ _ _ _ _ => (d_call G_z10 (hr.mono (by decide)) rfl T.m_z10 F_z10.kp b_z10 (a_cons (d_v 1) (a_cons (d_v 4) (a_cons (d_v 11) a_nil)))))) (d_lst (a_cons (d_sub (d_v 3) (d_v 5)) a_nil))) a_nil)))
  (s_cons (s_for PassesOwn.never rfl (i_S (d_v 7)) (g_t rfl (gs_cons 9 sc_z12.nd (gs_cons 10 sc_z12.nd gs_nil)))
  (s_one (s_set 4 (d_v 9) (d_add (d_ix (d_v 4) (d_v 9)) (d_mul (d_v 10) (d_v 8))))))
  (s_cons (s_a 5 sc_z12.nd (d_add (d_v 5) (d_v 8)))
  (s_one (s_a 6 sc_z12.nd (d_call G_z0 (hr.mono (by decide)) rfl T.m_z0 F_z0.kp b_z0 (a_cons (d_callFP GP_open_steps (hr.mono (by decide)) rfl T.m_z11 F_z11.kp b_z11 (a_cons (d_v 0) (a_cons (d_v 1) (a_cons (d_v 4) a_nil)))) (a_cons d_i a_nil))))))))))
  (q_r (p_tup (pa_c (p_o (d_v 5)) (pa_c (p_o (d_v 4)) (pa_c (p_o (d_tuple rfl T.n_tuple (a_cons (d_cp ["n", "heavy", "place", "most", "flow", "total", "reached", "pushes", "amount", "at", "sign"] ["other"] (c_n 11 nd7_z12 rfl rfl) (i_R1 rfl T.n_range (a_cons (d_v 0) a_nil)) (fun _ _ _ _ _ => ts_one (t_dnin hr (d_v 11) (d_v 6))) (fun _ _ _ _ _ => (d_v 11))) a_nil))) pa_n))))))))), r_fnP (n := 4) (m := 7) rfl h⟩
theorem sc_z13 : FnScope ["n", "heavy", "side", "weight", "place", "found"] ["n", "heavy"] (defScope (top 19)) := ⟨rfl, rfl, rfl, by decide +kernel, rfl, by decide +kernel, by decide +kernel⟩
theorem nd0_z13 : (["n", "heavy", "side", "weight", "%4", "found", "place"] : List Str).Nodup := by decide +kernel
theorem nd1_z13 : (["n", "heavy", "side", "weight", "%4", "found", "place"] : List Str).Nodup := by decide +kernel
theorem ok_z13 (T : Txt mg K base a_z0 a_z1 a_z2 a_z3 a_z4 a_z5 a_z6 a_z7 a_z8 a_z9 a_z10 a_z11 a_z12 a_z13 a_z14 a_z15 a_z16 a_z17 a_z18 a_z19 a_z20 a_z21 a_z22 a_z23) {fd : FuncData} (F : Fun K "lightest" "lightest" (top 19) a_z13 fd) {fd_z8 : FuncData} (F_z8 : Fun K "look_at_heavy" "look_at_heavy" (top 16) a_z8 fd_z8) (b_z8 : Binds K fd_z8 ["n", "heavy"] []) (G_z8 : FnOk P' w K mg base CX0 6 a_z8 fd_z8 ["n", "heavy"] (spD f_z8)) {fd_z9 : FuncData} (F_z9 : Fun K "side_weight" "side_weight" (top 18) a_z9 fd_z9) (b_z9 : Binds K fd_z9 ["heavy", "side"] []) (G_z9 : FnOk P' w K mg base CX0 1 a_z9 fd_z9 ["heavy", "side"] (spD f_z9)) {fd_z12 : FuncData} (F_z12 : Fun K "flow_to" "flow_to" (top 20) a_z12 fd_z12) (b_z12 : Binds K fd_z12 ["n", "heavy", "place", "most"] []) (G_z12 : FnOk P' w K mg base CX0 3 a_z12 fd_z12 ["n", "heavy", "place", "most"] (spD f_z12)) :
  FnOk P' w K mg base CX0 7 a_z13 fd ["n", "heavy"] (spD f_z13) := by
 refine F.ok sc_z13 (fun vs H Q E h => fn_len h) (fun cdv A outer s H vs Q E hr h => ?_)
 exact ⟨_,(s_cons (s_e (d_call G_z8 (hr.mono (by decide)) rfl T.m_z8 F_z8.kp b_z8 (a_cons (d_v 0) (a_cons (d_v 1) a_nil))))
  (s_cons (s_if (t_eq hr (d_v 0) d_i) (s_one (s_r d_n)) s_nil)
  (s_cons (s_a 2 sc_z13.nd (d_tuR2 rfl rfl T.n_tuple rfl T.n_range (a_cons d_i (a_cons (d_v 0) a_nil))))
  (s_cons (s_a 3 sc_z13.nd (d_call G_z9 (hr.mono (by decide)) rfl T.m_z9 F_z9.kp b_z9 (a_cons (d_v 1) (a_cons (d_v 2) a_nil))))
  (s_cons (s_for PassesOwn.never rfl (i_R2 rfl T.n_range (a_cons d_i (a_cons (d_v 0) a_nil))) (g_n 4 sc_z13.nd)
  (s_cons (s_a 5 sc_z13.nd (d_call G_z12 (hr.mono (by decide)) rfl T.m_z12 F_z12.kp b_z12 (a_cons (d_v 0) (a_cons (d_v 1) (a_cons (d_v 4) (a_cons (d_v 3) a_nil))))))
  (s_one (s_if (t_lt (d_ix (d_v 5) d_i) (d_v 3)) (s_cons (s_a 3 sc_z13.nd (d_ix (d_v 5) d_i))
  (s_one (s_a 2 sc_z13.nd (d_ix (d_v 5) d_i)))) s_nil))))
  (s_one (s_r (d_tup (a_cons (d_v 3) (a_cons (d_v 2) (a_cons (d_cp ["n", "heavy", "side", "weight", "%4", "found"] ["place"] (c_n 6 nd0_z13 rfl rfl) (i_R2 rfl T.n_range (a_cons d_i (a_cons (d_v 0) a_nil))) (fun _ _ _ _ _ => ts_nil) (fun _ _ _ _ _ => (d_ix (d_call G_z12 (hr.mono (by decide)) rfl T.m_z12 F_z12.kp b_z12 (a_cons (d_v 0) (a_cons (d_v 1) (a_cons (d_v 6) (a_cons (d_v 3) a_nil))))) d_i))) a_nil))))))))))), r_fn (n := 2) (m := 4) rfl h⟩
theorem okP_lightest (T : Txt mg K base a_z0 a_z1 a_z2 a_z3 a_z4 a_z5 a_z6 a_z7 a_z8 a_z9 a_z10 a_z11 a_z12 a_z13 a_z14 a_z15 a_z16 a_z17 a_z18 a_z19 a_z20 a_z21 a_z22 a_z23) {fd : FuncData} (F : Fun K "lightest" "lightest" (top 19) a_z13 fd) {fd_z8 : FuncData} (F_z8 : Fun K "look_at_heavy" "look_at_heavy" (top 16) a_z8 fd_z8) (b_z8 : Binds K fd_z8 ["n", "heavy"] []) (G_z8 : FnOk P' w K mg base CX0 6 a_z8 fd_z8 ["n", "heavy"] (spD f_z8)) {fd_z9 : FuncData} (F_z9 : Fun K "side_weight" "side_weight" (top 18) a_z9 fd_z9) (b_z9 : Binds K fd_z9 ["heavy", "side"] []) (G_z9 : FnOk P' w K mg base CX0 1 a_z9 fd_z9 ["heavy", "side"] (spD f_z9)) {fd_z12 : FuncData} (F_z12 : Fun K "flow_to" "flow_to" (top 20) a_z12 fd_z12) (b_z12 : Binds K fd_z12 ["n", "heavy", "place", "most"] []) (G_z12 : FnOk P' w K mg base CX0 3 a_z12 fd_z12 ["n", "heavy", "place", "most"] (spD f_z12)) (GP_flow_to : FnOk P' w K mg base CX0 3 a_z12 fd_z12 ["n", "heavy", "place", "most"] (spP fP_flow_to)) :
  FnOk P' w K mg base CX0 7 a_z13 fd ["n", "heavy"] (spP fP_lightest) := by
 refine F.ok sc_z13 (fun vs H Q E h => fnP_len h) (fun cdv A outer s H vs Q E hr h => ?_)
 exact ⟨_,(q_cons (s_e (d_call G_z8 (hr.mono (by decide)) rfl T.m_z8 F_z8.kp b_z8 (a_cons (d_v 0) (a_cons (d_v 1) a_nil))))
  (q_ifR (t_eq hr (d_v 0) d_i) d_n
  (q_cons (s_a 2 sc_z13.nd (d_tuR2 rfl rfl T.n_tuple rfl T.n_range (a_cons d_i (a_cons (d_v 0) a_nil))))
  (q_cons (s_a 3 sc_z13.nd (d_call G_z9 (hr.mono (by decide)) rfl T.m_z9 F_z9.kp b_z9 (a_cons (d_v 1) (a_cons (d_v 2) a_nil))))
  (q_cons (s_for PassesOwn.never rfl (i_R2 rfl T.n_range (a_cons d_i (a_cons (d_v 0) a_nil))) (g_n 4 sc_z13.nd)
  (s_cons (s_a 5 sc_z13.nd (d_call G_z12 (hr.mono (by decide)) rfl T.m_z12 F_z12.kp b_z12 (a_cons (d_v 0) (a_cons (d_v 1) (a_cons (d_v 4) (a_cons (d_v 3) a_nil))))))
  (s_one (s_if (t_lt (d_ix (d_v 5) d_i) (d_v 3)) (s_cons (s_a 3 sc_z13.nd (d_ix (d_v 5) d_i))
  (s_one (s_a 2 sc_z13.nd (d_ix (d_v 5) d_i)))) s_nil))))
  (q_r (p_tup (pa_c (p_o (d_v 3)) (pa_c (p_o (d_v 2)) (pa_c (p_cp ["n", "heavy", "side", "weight", "%4", "found"] ["place"] (c_n 6 nd1_z13 rfl rfl) (i_R2 rfl T.n_range (a_cons d_i (a_cons (d_v 0) a_nil))) (fun _ _ _ _ _ => (p_ix (p_call GP_flow_to (hr.mono (by decide)) rfl T.m_z12 F_z12.kp b_z12 (a_cons (d_v 0) (a_cons (d_v 1) (a_cons (d_v 6) (a_cons (d_v 3) a_nil)))))))) pa_n)))))))))), r_fnP (n := 2) (m := 4) rfl h⟩
theorem sc_z14 : FnScope ["script", "k"] ["script", "k"] (defScope (top 24)) := ⟨rfl, rfl, rfl, by decide +kernel, rfl, by decide +kernel, by decide +kernel⟩
theorem ok_z14 (T : Txt mg K base a_z0 a_z1 a_z2 a_z3 a_z4 a_z5 a_z6 a_z7 a_z8 a_z9 a_z10 a_z11 a_z12 a_z13 a_z14 a_z15 a_z16 a_z17 a_z18 a_z19 a_z20 a_z21 a_z22 a_z23) {fd : FuncData} (F : Fun K "_law_cell_at" "_law_cell_at" (top 24) a_z14 fd) :
  FnOk P' w K mg base CX0 1 a_z14 fd ["script", "k"] (spD f_z14) := by
 refine F.ok sc_z14 (fun vs H Q E h => fn_len h) (fun cdv A outer s H vs Q E hr h => ?_)
 exact ⟨_,(s_cons (s_if (t_lt (d_v 1) (d_len rfl T.n_len (a_cons (d_v 0) a_nil))) (s_one (s_r (d_ix (d_v 0) (d_v 1)))) s_nil)
  (s_one (s_r d_i))),r_fn (n := 2) (m := 0) rfl h⟩
theorem sc_z15 : FnScope ["script", "at", "cell", "big", "turn", "one"] ["script", "at"] (defScope (top 25)) := ⟨rfl, rfl, rfl, by decide +kernel, rfl, by decide +kernel, by decide +kernel⟩
theorem ok_z15 (T : Txt mg K base a_z0 a_z1 a_z2 a_z3 a_z4 a_z5 a_z6 a_z7 a_z8 a_z9 a_z10 a_z11 a_z12 a_z13 a_z14 a_z15 a_z16 a_z17 a_z18 a_z19 a_z20 a_z21 a_z22 a_z23) {fd : FuncData} (F : Fun K "_law_pool" "_law_pool" (top 25) a_z15 fd) {fd_z14 : FuncData} (F_z14 : Fun K "_law_cell_at" "_law_cell_at" (top 24) a_z14 fd_z14) (b_z14 : Binds K fd_z14 ["script", "k"] []) (G_z14 : FnOk P' w K mg base CX0 1 a_z14 fd_z14 ["script", "k"] (spD f_z14)) :
  FnOk P' w K mg base CX0 2 a_z15 fd ["script", "at"] (spD f_z15) := by
 refine F.ok sc_z15 (fun vs H Q E h => fn_len h) (fun cdv A outer s H vs Q E hr h => ?_)
 exact ⟨_,(s_cons (s_a 2 sc_z15.nd (d_call G_z14 (hr.mono (by decide)) rfl T.m_z14 F_z14.kp b_z14 (a_cons (d_v 0) (a_cons (d_v 1) a_nil))))
  (s_cons (s_if (t_ge (d_v 2) (d_pow d_i d_i)) (s_one (s_r (d_lst (a_cons (d_v 2) a_nil)))) s_nil)
  (s_cons (s_a 3 sc_z15.nd d_i)
  (s_cons (s_for PassesOwn.never rfl (i_R1 rfl T.n_range (a_cons d_i a_nil)) (g_n 4 sc_z15.nd)
  (s_cons (s_a 5 sc_z15.nd (d_mod (d_mul (d_add (d_add (d_add (d_mod (d_v 2) d_i) (d_mul (d_mul d_i (d_v 4)) (d_v 4))) (d_mul d_i (d_v 1))) d_i) d_i) d_i))
  (s_cons (s_a 5 sc_z15.nd (d_mod (d_mul (d_v 5) (d_v 5)) d_i))
  (s_cons (s_a 5 sc_z15.nd (d_mod (d_mul (d_add (d_v 5) (d_mul d_i (d_v 4))) d_i) d_i))
  (s_one (s_a 3 sc_z15.nd (d_add (d_mul (d_v 3) d_i) (d_mod (d_div (d_v 5) d_i) d_i))))))))
  (s_one (s_r (d_lst (a_cons (d_v 3) a_nil)))))))),r_fn (n := 2) (m := 4) rfl h⟩
theorem sc_z16 : FnScope ["pool", "many", "number"] ["pool", "many"] (defScope (top 26)) := ⟨rfl, rfl, rfl, by decide +kernel, rfl, by decide +kernel, by decide +kernel⟩
theorem ok_z16 (T : Txt mg K base a_z0 a_z1 a_z2 a_z3 a_z4 a_z5 a_z6 a_z7 a_z8 a_z9 a_z10 a_z11 a_z12 a_z13 a_z14 a_z15 a_z16 a_z17 a_z18 a_z19 a_z20 a_z21 a_z22 a_z23) {fd : FuncData} (F : Fun K "_law_take" "_law_take" (top 26) a_z16 fd) :
  FnOk P' w K mg base CX0 1 a_z16 fd ["pool", "many"] (spM f_z16) := by
 refine F.ok sc_z16 (fun vs H Q E h => fnM_len h) (fun cdv A outer s H vs Q E hr h => ?_)
 exact ⟨_,(s_cons (s_a 2 sc_z16.nd (d_mod (d_ix (d_v 0) d_i) (d_v 1)))
  (s_cons (s_set 0 d_i (d_div (d_ix (d_v 0) d_i) (d_v 1)))
  (s_one (s_r (d_v 2))))),r_fnM (n := 2) (m := 1) rfl h⟩
theorem sc_z17 : FnScope ["pool", "n", "most", "sort", "heavy", "k", "a", "b", "weight"] ["pool", "n", "most"] (defScope (top 27)) := ⟨rfl, rfl, rfl, by decide +kernel, rfl, by decide +kernel, by decide +kernel⟩
theorem ok_z17 (T : Txt mg K base a_z0 a_z1 a_z2 a_z3 a_z4 a_z5 a_z6 a_z7 a_z8 a_z9 a_z10 a_z11 a_z12 a_z13 a_z14 a_z15 a_z16 a_z17 a_z18 a_z19 a_z20 a_z21 a_z22 a_z23) {fd : FuncData} (F : Fun K "_law_heavy" "_law_heavy" (top 27) a_z17 fd) {fd_z16 : FuncData} (F_z16 : Fun K "_law_take" "_law_take" (top 26) a_z16 fd_z16) (b_z16 : Binds K fd_z16 ["pool", "many"] []) (G_z16 : FnOk P' w K mg base CX0 1 a_z16 fd_z16 ["pool", "many"] (spM f_z16)) :
  FnOk P' w K mg base CX0 2 a_z17 fd ["pool", "n", "most"] (spM f_z17) := by
 refine F.ok sc_z17 (fun vs H Q E h => fnM_len h) (fun cdv A outer s H vs Q E hr h => ?_)
 exact ⟨_,(s_cons (s_a 3 sc_z17.nd (d_callM G_z16 (hr.mono (by decide)) rfl T.m_z16 F_z16.kp b_z16 (a_cons (d_v 0) (a_cons d_i a_nil))))
  (s_cons (s_a 4 sc_z17.nd (d_lst a_nil))
  (s_cons (s_if (t_lt (d_v 1) d_i) (s_one (s_r (d_v 4))) s_nil)
  (s_cons (s_for PassesOwn.never rfl (i_R1 rfl T.n_range (a_cons (d_callM G_z16 (hr.mono (by decide)) rfl T.m_z16 F_z16.kp b_z16 (a_cons (d_v 0) (a_cons (d_add (d_v 2) d_i) a_nil))) a_nil)) (g_n 5 sc_z17.nd)
  (s_cons (s_a 6 sc_z17.nd (d_callM G_z16 (hr.mono (by decide)) rfl T.m_z16 F_z16.kp b_z16 (a_cons (d_v 0) (a_cons (d_v 1) a_nil))))
  (s_cons (s_a 7 sc_z17.nd (d_mod (d_add (d_add (d_v 6) d_i) (d_callM G_z16 (hr.mono (by decide)) rfl T.m_z16 F_z16.kp b_z16 (a_cons (d_v 0) (a_cons (d_sub (d_v 1) d_i) a_nil)))) (d_v 1)))
  (s_cons (s_if (t_w (w_and (t_eq hr (d_v 3) d_i) (w_and1 (t_eq hr (d_callM G_z16 (hr.mono (by decide)) rfl T.m_z16 F_z16.kp b_z16 (a_cons (d_v 0) (a_cons d_i a_nil))) d_i)))) (s_one (s_a 7 sc_z17.nd (d_mod (d_add (d_v 6) d_i) (d_v 1)))) s_nil)
  (s_cons (s_a 8 sc_z17.nd (d_add d_i (d_callM G_z16 (hr.mono (by decide)) rfl T.m_z16 F_z16.kp b_z16 (a_cons (d_v 0) (a_cons (d_ix (d_lst (a_cons d_i (a_cons d_i (a_cons d_i (a_cons d_i a_nil))))) (d_v 3)) a_nil)))))
  (s_cons (s_if (t_eq hr (d_v 3) d_i) (s_one (s_a 8 sc_z17.nd (d_sub (d_mul (d_v 8) (d_pow d_i d_i)) (d_callM G_z16 (hr.mono (by decide)) rfl T.m_z16 F_z16.kp b_z16 (a_cons (d_v 0) (a_cons d_i a_nil)))))) s_nil)
  (s_one (s_app 4 (d_tup (a_cons (d_min2 rfl rfl T.n_min (a_cons (d_v 6) (a_cons (d_v 7) a_nil))) (a_cons (d_max2 rfl rfl T.n_max (a_cons (d_v 6) (a_cons (d_v 7) a_nil))) (a_cons (d_v 8) a_nil))))))))))))
  (s_one (s_r (d_v 4))))))),r_fnM (n := 3) (m := 6) rfl h⟩
theorem sc_z18 : FnScope ["found"] ["found"] (defScope (top 28)) := ⟨rfl, rfl, rfl, by decide +kernel, rfl, by decide +kernel, by decide +kernel⟩
theorem ok_z18 (T : Txt mg K base a_z0 a_z1 a_z2 a_z3 a_z4 a_z5 a_z6 a_z7 a_z8 a_z9 a_z10 a_z11 a_z12 a_z13 a_z14 a_z15 a_z16 a_z17 a_z18 a_z19 a_z20 a_z21 a_z22 a_z23) {fd : FuncData} (F : Fun K "_law_whole" "_law_whole" (top 28) a_z18 fd) :
  FnOk P' w K mg base CX0 1 a_z18 fd ["found"] (spD f_z18) := by
 refine F.ok sc_z18 (fun vs H Q E h => fn_len h) (fun cdv A outer s H vs Q E hr h => ?_)
 exact ⟨_,(s_one (s_r (d_and (d_isi kit_int (by rfl) rfl T.n_int rfl T.n_isinstance (d_v 0)) (d_one (d_not (d_isi kit_bool (by rfl) rfl T.n_bool rfl T.n_isinstance (d_v 0))))))),r_fn (n := 1) (m := 0) rfl h⟩
theorem sc_z19 : FnScope ["heavy", "side"] ["heavy", "side"] (defScope (top 29)) := ⟨rfl, rfl, rfl, by decide +kernel, rfl, by decide +kernel, by decide +kernel⟩
theorem nd0_z19 : (["heavy", "side", "a", "b", "weight"] : List Str).Nodup := by decide +kernel
theorem ok_z19 (T : Txt mg K base a_z0 a_z1 a_z2 a_z3 a_z4 a_z5 a_z6 a_z7 a_z8 a_z9 a_z10 a_z11 a_z12 a_z13 a_z14 a_z15 a_z16 a_z17 a_z18 a_z19 a_z20 a_z21 a_z22 a_z23) {fd : FuncData} (F : Fun K "_law_weight" "_law_weight" (top 29) a_z19 fd) :
  FnOk P' w K mg base CX0 1 a_z19 fd ["heavy", "side"] (spD f_z19) := by
 refine F.ok sc_z19 (fun vs H Q E h => fn_len h) (fun cdv A outer s H vs Q E hr h => ?_)
 exact ⟨_, (s_one (s_r (d_sumL rfl rfl T.n_sum (a_cons (d_cpM 0 ["heavy", "side"] ["a", "b", "weight"] (c_t rfl (fun _ _ _ _ _ => (gs_cons 2 nd0_z19 (gs_cons 3 nd0_z19 (gs_cons 4 nd0_z19 gs_nil))))) (d_v 0) (fun _ _ _ _ _ => ts_one (t_ne hr (d_in hr (d_v 2) (d_v 1)) (d_in hr (d_v 3) (d_v 1)))) (fun _ _ _ _ _ => (d_v 4))) a_nil)))), r_fn (n := 2) (m := 0) rfl h⟩
theorem sc_z20 : FnScope ["n", "side"] ["n", "side"] (defScope (top 30)) := ⟨rfl, rfl, rfl, by decide +kernel, rfl, by decide +kernel, by decide +kernel⟩
theorem nd0_z20 : (["n", "side", "place"] : List Str).Nodup := by decide +kernel
theorem nd1_z20 : (["n", "side", "k"] : List Str).Nodup := by decide +kernel
theorem ok_z20 (T : Txt mg K base a_z0 a_z1 a_z2 a_z3 a_z4 a_z5 a_z6 a_z7 a_z8 a_z9 a_z10 a_z11 a_z12 a_z13 a_z14 a_z15 a_z16 a_z17 a_z18 a_z19 a_z20 a_z21 a_z22 a_z23) {fd : FuncData} (F : Fun K "_law_is_side" "_law_is_side" (top 30) a_z20 fd) {fd_z18 : FuncData} (F_z18 : Fun K "_law_whole" "_law_whole" (top 28) a_z18 fd_z18) (b_z18 : Binds K fd_z18 ["found"] []) (G_z18 : FnOk P' w K mg base CX0 1 a_z18 fd_z18 ["found"] (spD f_z18)) :
  FnOk P' w K mg base CX0 2 a_z20 fd ["n", "side"] (spD f_z20) := by
 refine F.ok sc_z20 (fun vs H Q E h => fn_len h) (fun cdv A outer s H vs Q E hr h => ?_)
 exact ⟨_, (s_cons (s_if (t_w (w_or (t_not (t_val (d_isi kit_tuple (by rfl) rfl T.n_tuple rfl T.n_isinstance (d_v 1)))) (w_or (t_eq hr (d_v 1) (d_tup a_nil)) (w_or1 (t_not (t_val (d_all rfl rfl T.n_all (a_cons (d_cpM 1 ["n", "side"] ["place"] (c_n 2 nd0_z20 rfl rfl) (d_v 1) (fun _ _ _ _ _ => ts_nil) (fun _ _ _ _ _ => (d_and (d_call G_z18 (hr.mono (by decide)) rfl T.m_z18 F_z18.kp b_z18 (a_cons (d_v 2) a_nil)) (d_one (d_chain op_lt od_lt op_lt od_lt d_i (d_v 2) (d_v 0)))))) a_nil)))))))) (s_one (s_r d_b)) s_nil)
  (s_one (s_r (d_all rfl rfl T.n_all (a_cons (d_cp ["n", "side"] ["k"] (c_n 2 nd1_z20 rfl rfl) (i_R2 rfl T.n_range (a_cons d_i (a_cons (d_len rfl T.n_len (a_cons (d_v 1) a_nil)) a_nil))) (fun _ _ _ _ _ => ts_nil) (fun _ _ _ _ _ => (d_lt (d_ix (d_v 1) (d_sub (d_v 2) d_i)) (d_ix (d_v 1) (d_v 2))))) a_nil))))), r_fn (n := 2) (m := 0) rfl h⟩
theorem sc_z21 : FnScope ["n", "heavy", "flow", "place", "weight", "come", "a", "b", "most", "going", "due"] ["n", "heavy", "flow", "place", "weight"] (defScope (top 31)) := ⟨rfl, rfl, rfl, by decide +kernel, rfl, by decide +kernel, by decide +kernel⟩
theorem nd0_z21 : (["n", "heavy", "flow", "place", "weight", "come", "a", "b", "most", "%9", "due", "going"] : List Str).Nodup := by decide +kernel
theorem ok_z21 (T : Txt mg K base a_z0 a_z1 a_z2 a_z3 a_z4 a_z5 a_z6 a_z7 a_z8 a_z9 a_z10 a_z11 a_z12 a_z13 a_z14 a_z15 a_z16 a_z17 a_z18 a_z19 a_z20 a_z21 a_z22 a_z23) {fd : FuncData} (F : Fun K "_law_leads" "_law_leads" (top 31) a_z21 fd) {fd_z18 : FuncData} (F_z18 : Fun K "_law_whole" "_law_whole" (top 28) a_z18 fd_z18) (b_z18 : Binds K fd_z18 ["found"] []) (G_z18 : FnOk P' w K mg base CX0 1 a_z18 fd_z18 ["found"] (spD f_z18)) :
  FnOk P' w K mg base CX0 2 a_z21 fd ["n", "heavy", "flow", "place", "weight"] (spD f_z21) := by
 refine F.ok sc_z21 (fun vs H Q E h => fn_len h) (fun cdv A outer s H vs Q E hr h => ?_)
 exact ⟨_, (s_cons (s_if (t_w (w_or (t_not (t_val (d_isi kit_list (by rfl) rfl T.n_list rfl T.n_isinstance (d_v 2)))) (w_or (t_ne hr (d_len rfl T.n_len (a_cons (d_v 2) a_nil)) (d_len rfl T.n_len (a_cons (d_v 1) a_nil))) (w_or1 (t_not (t_val (d_all rfl rfl T.n_all (a_cons (d_cpM 2 ["n", "heavy", "flow", "place", "weight", "come", "a", "b", "most", "%9", "due"] ["going"] (c_n 11 nd0_z21 rfl rfl) (d_v 2) (fun _ _ _ _ _ => ts_nil) (fun _ _ _ _ _ => (d_call G_z18 (hr.mono (by decide)) rfl T.m_z18 F_z18.kp b_z18 (a_cons (d_v 11) a_nil)))) a_nil)))))))) (s_one (s_r d_b)) s_nil)
  (s_cons (s_a 5 sc_z21.nd (d_mul (d_lst (a_cons d_i a_nil)) (d_v 0)))
  (s_cons (s_for PassesOwn.never rfl (i_Zip rfl T.n_zip (a_cons (d_v 1) (a_cons (d_v 2) a_nil))) (g_q 9 rfl sc_z21.nd (gs_cons 6 sc_z21.nd (gs_cons 7 sc_z21.nd (gs_cons 8 sc_z21.nd gs_nil))))
  (s_cons (s_if (t_gt (d_abs rfl T.n_abs (a_cons (d_v 9) a_nil)) (d_v 8)) (s_one (s_r d_b)) s_nil)
  (s_cons (s_set 5 (d_v 6) (d_sub (d_ix (d_v 5) (d_v 6)) (d_v 9)))
  (s_one (s_set 5 (d_v 7) (d_add (d_ix (d_v 5) (d_v 7)) (d_v 9)))))))
  (s_cons (s_a 10 sc_z21.nd (d_mul (d_lst (a_cons d_i a_nil)) (d_v 0)))
  (s_cons (s_set 10 d_i (d_sub d_i (d_v 4)))
  (s_cons (s_set 10 (d_v 3) (d_v 4))
  (s_one (s_r (d_eq hr (d_v 5) (d_v 10)))))))))),r_fn (n := 5) (m := 6) rfl h⟩
theorem sc_z22 : FnScope ["n", "heavy", "found"] ["n", "heavy", "found"] (defScope (top 32)) := ⟨rfl, rfl, rfl, by decide +kernel, rfl, by decide +kernel, by decide +kernel⟩
theorem nd0_z22 : (["n", "heavy", "found", "k"] : List Str).Nodup := by decide +kernel
theorem ok_z22 (T : Txt mg K base a_z0 a_z1 a_z2 a_z3 a_z4 a_z5 a_z6 a_z7 a_z8 a_z9 a_z10 a_z11 a_z12 a_z13 a_z14 a_z15 a_z16 a_z17 a_z18 a_z19 a_z20 a_z21 a_z22 a_z23) {fd : FuncData} (F : Fun K "_law_right" "_law_right" (top 32) a_z22 fd) {fd_z18 : FuncData} (F_z18 : Fun K "_law_whole" "_law_whole" (top 28) a_z18 fd_z18) (b_z18 : Binds K fd_z18 ["found"] []) (G_z18 : FnOk P' w K mg base CX0 1 a_z18 fd_z18 ["found"] (spD f_z18)) {fd_z19 : FuncData} (F_z19 : Fun K "_law_weight" "_law_weight" (top 29) a_z19 fd_z19) (b_z19 : Binds K fd_z19 ["heavy", "side"] []) (G_z19 : FnOk P' w K mg base CX0 1 a_z19 fd_z19 ["heavy", "side"] (spD f_z19)) {fd_z20 : FuncData} (F_z20 : Fun K "_law_is_side" "_law_is_side" (top 30) a_z20 fd_z20) (b_z20 : Binds K fd_z20 ["n", "side"] []) (G_z20 : FnOk P' w K mg base CX0 2 a_z20 fd_z20 ["n", "side"] (spD f_z20)) {fd_z21 : FuncData} (F_z21 : Fun K "_law_leads" "_law_leads" (top 31) a_z21 fd_z21) (b_z21 : Binds K fd_z21 ["n", "heavy", "flow", "place", "weight"] []) (G_z21 : FnOk P' w K mg base CX0 2 a_z21 fd_z21 ["n", "heavy", "flow", "place", "weight"] (spD f_z21)) :
  FnOk P' w K mg base CX0 3 a_z22 fd ["n", "heavy", "found"] (spD f_z22) := by
 refine F.ok sc_z22 (fun vs H Q E h => fn_len h) (fun cdv A outer s H vs Q E hr h => ?_)
 exact ⟨_,(s_cons (s_if (t_w (w_or (t_not (t_val (d_isi kit_tuple (by rfl) rfl T.n_tuple rfl T.n_isinstance (d_v 2)))) (w_or (t_ne hr (d_len rfl T.n_len (a_cons (d_v 2) a_nil)) d_i) (w_or (t_not (t_val (d_call G_z18 (hr.mono (by decide)) rfl T.m_z18 F_z18.kp b_z18 (a_cons (d_ix (d_v 2) d_i) a_nil)))) (w_or1 (t_not (t_val (d_call G_z20 (hr.mono (by decide)) rfl T.m_z20 F_z20.kp b_z20 (a_cons (d_v 0) (a_cons (d_ix (d_v 2) d_i) a_nil)))))))))) (s_one (s_r d_b)) s_nil)
  (s_cons (s_if (t_w (w_or (t_ne hr (d_call G_z19 (hr.mono (by decide)) rfl T.m_z19 F_z19.kp b_z19 (a_cons (d_v 1) (a_cons (d_ix (d_v 2) d_i) a_nil))) (d_ix (d_v 2) d_i)) (w_or (t_not (t_val (d_isi kit_list (by rfl) rfl T.n_list rfl T.n_isinstance (d_ix (d_v 2) d_i)))) (w_or1 (t_ne hr (d_len rfl T.n_len (a_cons (d_ix (d_v 2) d_i) a_nil)) (d_sub (d_v 0) d_i)))))) (s_one (s_r d_b)) s_nil)
  (s_one (s_r (d_all rfl rfl T.n_all (a_cons (d_cp ["n", "heavy", "found"] ["k"] (c_n 3 nd0_z22 rfl rfl) (i_R1 rfl T.n_range (a_cons (d_sub (d_v 0) d_i) a_nil)) (fun _ _ _ _ _ => ts_nil) (fun _ _ _ _ _ => (d_call G_z21 (hr.mono (by decide)) rfl T.m_z21 F_z21.kp b_z21 (@a_cons _ _ _ _ _ (d_v 0) (@a_cons _ _ _ _ _ (d_v 1) (@a_cons _ _ _ _ _ (d_ix (d_ix (d_v 2) d_i) (d_v 3)) (@a_cons _ _ _ _ _ (d_add (d_v 3) d_i) (@a_cons _ _ _ _ _ (d_ix (d_v 2) d_i) a_nil rfl) rfl) rfl) rfl) rfl)))) a_nil)))))), r_fn (n := 3) (m := 0) rfl h⟩
theorem sc_z23 : FnScope ["script", "pool", "n", "at", "heavy", "handed", "found", "kept", "k"] ["script"] (defScope (top 33)) := ⟨rfl, rfl, rfl, by decide +kernel, rfl, by decide +kernel, by decide +kernel⟩
theorem nd0_z23 : (["script", "pool", "n", "at", "heavy", "handed", "found", "kept", "k", "flow"] : List Str).Nodup := by decide +kernel
theorem ok_z23 (T : Txt mg K base a_z0 a_z1 a_z2 a_z3 a_z4 a_z5 a_z6 a_z7 a_z8 a_z9 a_z10 a_z11 a_z12 a_z13 a_z14 a_z15 a_z16 a_z17 a_z18 a_z19 a_z20 a_z21 a_z22 a_z23) {fd : FuncData} (F : Fun K "law" "law" (top 33) a_z23 fd) {fd_z13 : FuncData} (F_z13 : Fun K "lightest" "lightest" (top 19) a_z13 fd_z13) (b_z13 : Binds K fd_z13 ["n", "heavy"] []) (G_z13 : FnOk P' w K mg base CX0 7 a_z13 fd_z13 ["n", "heavy"] (spD f_z13)) {fd_z15 : FuncData} (F_z15 : Fun K "_law_pool" "_law_pool" (top 25) a_z15 fd_z15) (b_z15 : Binds K fd_z15 ["script", "at"] []) (G_z15 : FnOk P' w K mg base CX0 2 a_z15 fd_z15 ["script", "at"] (spD f_z15)) {fd_z16 : FuncData} (F_z16 : Fun K "_law_take" "_law_take" (top 26) a_z16 fd_z16) (b_z16 : Binds K fd_z16 ["pool", "many"] []) (G_z16 : FnOk P' w K mg base CX0 1 a_z16 fd_z16 ["pool", "many"] (spM f_z16)) {fd_z17 : FuncData} (F_z17 : Fun K "_law_heavy" "_law_heavy" (top 27) a_z17 fd_z17) (b_z17 : Binds K fd_z17 ["pool", "n", "most"] []) (G_z17 : FnOk P' w K mg base CX0 2 a_z17 fd_z17 ["pool", "n", "most"] (spM f_z17)) {fd_z22 : FuncData} (F_z22 : Fun K "_law_right" "_law_right" (top 32) a_z22 fd_z22) (b_z22 : Binds K fd_z22 ["n", "heavy", "found"] []) (G_z22 : FnOk P' w K mg base CX0 3 a_z22 fd_z22 ["n", "heavy", "found"] (spD f_z22)) (GP_lightest : FnOk P' w K mg base CX0 7 a_z13 fd_z13 ["n", "heavy"] (spP fP_lightest)) :
  FnOk P' w K mg base CX0 8 a_z23 fd ["script"] (spD f_z23) := by
 refine F.ok sc_z23 (fun vs H Q E h => fn_len h) (fun cdv A outer s H vs Q E hr h => ?_)
 exact ⟨_,(s_cons (s_a 1 sc_z23.nd (d_call G_z15 (hr.mono (by decide)) rfl T.m_z15 F_z15.kp b_z15 (a_cons (d_v 0) (a_cons d_i a_nil))))
  (s_cons (s_a 2 sc_z23.nd (d_add d_i (d_callM G_z16 (hr.mono (by decide)) rfl T.m_z16 F_z16.kp b_z16 (a_cons (d_v 1) (a_cons (d_ix (d_lst (a_cons d_i (a_cons d_i a_nil))) (d_callM G_z16 (hr.mono (by decide)) rfl T.m_z16 F_z16.kp b_z16 (a_cons (d_v 1) (a_cons d_i a_nil)))) a_nil)))))
  (s_cons (s_for PassesOwn.never rfl (i_R2 rfl T.n_range (a_cons d_i (a_cons (d_max2 rfl rfl T.n_max (a_cons d_i (a_cons (d_min2 rfl rfl T.n_min (a_cons d_i (a_cons (d_len rfl T.n_len (a_cons (d_v 0) a_nil)) a_nil))) a_nil))) a_nil))) (g_n 3 sc_z23.nd)
  (s_cons (s_a 1 sc_z23.nd (d_call G_z15 (hr.mono (by decide)) rfl T.m_z15 F_z15.kp b_z15 (a_cons (d_v 0) (a_cons (d_v 3) a_nil))))
  (s_cons (s_a 4 sc_z23.nd (d_callM G_z17 (hr.mono (by decide)) rfl T.m_z17 F_z17.kp b_z17 (a_cons (d_v 1) (a_cons (d_v 2) (a_cons (d_ix (d_lst (a_cons d_i (a_cons d_i (a_cons d_i (a_cons d_i a_nil))))) (d_callM G_z16 (hr.mono (by decide)) rfl T.m_z16 F_z16.kp b_z16 (a_cons (d_v 1) (a_cons d_i a_nil)))) a_nil)))))
  (s_cons (s_a 5 sc_z23.nd (d_list rfl T.n_list (a_cons (d_v 4) a_nil)))
  (s_deepK 6 sc_z23.nd GP_lightest (hr.mono (by decide)) rfl T.m_z13 F_z13.kp b_z13 (a_cons (d_v 2) (a_cons (d_v 5) a_nil))
  (m_ifM (t_eq hr (d_v 2) d_i) (m_if (t_isnN (d_v 6) d_n) (s_one (s_r d_b))
  (m_end (s_one s_ct)))
  (m_if (t_not (t_val (d_call G_z22 (hr.mono (by decide)) rfl T.m_z22 F_z22.kp b_z22 (a_cons (d_v 2) (a_cons (d_v 4) (a_cons (d_v 6) a_nil)))))) (s_one (s_r d_b))
  (m_c (c_keep 7 sc_z23.nd (p_tup (pa_c (p_o (d_ix (d_v 6) d_i)) (pa_c (p_o (d_ix (d_v 6) d_i)) (pa_c (p_cp ["script", "pool", "n", "at", "heavy", "handed", "found", "kept", "k"] ["flow"] (c_n 9 nd0_z23 rfl rfl) (i_S (d_ix (d_v 6) d_i)) (fun _ _ _ _ _ => (p_o (d_list rfl T.n_list (a_cons (d_v 9) a_nil))))) pa_n)))))
  (m_c (c_for PassesOwn.never rfl (i_R1 rfl T.n_range (a_cons (d_sub (d_v 2) d_i) a_nil)) (g_n 8 sc_z23.nd)
  (c_cons (c_if (t_ne hr (d_ix (d_ix (d_v 6) d_i) (d_v 8)) (d_ix (d_ix (d_v 7) d_i) (d_v 8))) (c_one (c_rt d_b)) c_nil)
  (c_one (c_app2 (d_v 8) d_i))))
  (m_clr (s_cons (s_if (t_w (w_or (t_ne hr (d_callKp 5 G_z13 (hr.mono (by decide)) rfl T.m_z13 F_z13.kp b_z13 (a_cons (d_v 2) (a_cons (d_v 5) a_nil))) (d_v 7)) (w_or1 (t_ne hr (d_v 5) (d_v 4))))) (s_one (s_r d_b)) s_nil)
  (s_one (s_if (t_ne hr (d_v 4) (d_lst a_nil)) (s_cons (s_e (d_pop 5))
  (s_one (s_if (t_not (t_val (d_call G_z22 (hr.mono (by decide)) rfl T.m_z22 F_z22.kp b_z22 (a_cons (d_v 2) (a_cons (d_sl (d_v 4) o_n (o_s (d_neg d_i))) (a_cons (d_callKp 5 G_z13 (hr.mono (by decide)) rfl T.m_z13 F_z13.kp b_z13 (a_cons (d_v 2) (a_cons (d_v 5) a_nil))) a_nil)))))) (s_one (s_r d_b)) s_nil))) s_nil)))))))))))))
  (s_one (s_r d_b))))),r_fn (n := 1) (m := 8) rfl h⟩
end
theorem all_mk {l : PySem.W.OpenLaw} {w : World} {K : PySem.W.Frag} {h : Heap} {mg : Str → Option Value} {fa a_z0 a_z1 a_z2 a_z3 a_z4 a_z5 a_z6 a_z7 a_z8 a_z9 a_z10 a_z11 a_z12 a_z13 a_z14 a_z15 a_z16 a_z17 a_z18 a_z19 a_z20 a_z21 a_z22 a_z23 : Addr} (X : K.In h) (G : h.Ns mainGlobals mg) (hfa : mg "law" = some (.ref fa))
  {od_z0 an_z0 : Option Addr} {sl_z0 : Array (Option Value)} {oc_z0 kV_z0 dc_z0 pm_z0 cd_z0 ct_z0 : Value}
  {od_z1 an_z1 : Option Addr} {sl_z1 : Array (Option Value)} {oc_z1 kV_z1 dc_z1 pm_z1 cd_z1 ct_z1 : Value}
  {od_z2 an_z2 : Option Addr} {sl_z2 : Array (Option Value)} {oc_z2 kV_z2 dc_z2 pm_z2 cd_z2 ct_z2 : Value}
  {od_z3 an_z3 : Option Addr} {sl_z3 : Array (Option Value)} {oc_z3 kV_z3 dc_z3 pm_z3 cd_z3 ct_z3 : Value}
  {od_z4 an_z4 : Option Addr} {sl_z4 : Array (Option Value)} {oc_z4 kV_z4 dc_z4 pm_z4 cd_z4 ct_z4 : Value}
  {od_z5 an_z5 : Option Addr} {sl_z5 : Array (Option Value)} {oc_z5 kV_z5 dc_z5 pm_z5 cd_z5 ct_z5 : Value}
  {od_z6 an_z6 : Option Addr} {sl_z6 : Array (Option Value)} {oc_z6 kV_z6 dc_z6 pm_z6 cd_z6 ct_z6 : Value}
  {od_z7 an_z7 : Option Addr} {sl_z7 : Array (Option Value)} {oc_z7 kV_z7 dc_z7 pm_z7 cd_z7 ct_z7 : Value}
  {od_z8 an_z8 : Option Addr} {sl_z8 : Array (Option Value)} {oc_z8 kV_z8 dc_z8 pm_z8 cd_z8 ct_z8 : Value}
  {od_z9 an_z9 : Option Addr} {sl_z9 : Array (Option Value)} {oc_z9 kV_z9 dc_z9 pm_z9 cd_z9 ct_z9 : Value}
  {od_z10 an_z10 : Option Addr} {sl_z10 : Array (Option Value)} {oc_z10 kV_z10 dc_z10 pm_z10 cd_z10 ct_z10 : Value}
  {od_z11 an_z11 : Option Addr} {sl_z11 : Array (Option Value)} {oc_z11 kV_z11 dc_z11 pm_z11 cd_z11 ct_z11 : Value}
  {od_z12 an_z12 : Option Addr} {sl_z12 : Array (Option Value)} {oc_z12 kV_z12 dc_z12 pm_z12 cd_z12 ct_z12 : Value}
  {od_z13 an_z13 : Option Addr} {sl_z13 : Array (Option Value)} {oc_z13 kV_z13 dc_z13 pm_z13 cd_z13 ct_z13 : Value}
  {od_z14 an_z14 : Option Addr} {sl_z14 : Array (Option Value)} {oc_z14 kV_z14 dc_z14 pm_z14 cd_z14 ct_z14 : Value}
  {od_z15 an_z15 : Option Addr} {sl_z15 : Array (Option Value)} {oc_z15 kV_z15 dc_z15 pm_z15 cd_z15 ct_z15 : Value}
  {od_z16 an_z16 : Option Addr} {sl_z16 : Array (Option Value)} {oc_z16 kV_z16 dc_z16 pm_z16 cd_z16 ct_z16 : Value}
  {od_z17 an_z17 : Option Addr} {sl_z17 : Array (Option Value)} {oc_z17 kV_z17 dc_z17 pm_z17 cd_z17 ct_z17 : Value}
  {od_z18 an_z18 : Option Addr} {sl_z18 : Array (Option Value)} {oc_z18 kV_z18 dc_z18 pm_z18 cd_z18 ct_z18 : Value}
  {od_z19 an_z19 : Option Addr} {sl_z19 : Array (Option Value)} {oc_z19 kV_z19 dc_z19 pm_z19 cd_z19 ct_z19 : Value}
  {od_z20 an_z20 : Option Addr} {sl_z20 : Array (Option Value)} {oc_z20 kV_z20 dc_z20 pm_z20 cd_z20 ct_z20 : Value}
  {od_z21 an_z21 : Option Addr} {sl_z21 : Array (Option Value)} {oc_z21 kV_z21 dc_z21 pm_z21 cd_z21 ct_z21 : Value}
  {od_z22 an_z22 : Option Addr} {sl_z22 : Array (Option Value)} {oc_z22 kV_z22 dc_z22 pm_z22 cd_z22 ct_z22 : Value}
  {od_z23 an_z23 : Option Addr} {sl_z23 : Array (Option Value)} {oc_z23 kV_z23 dc_z23 pm_z23 cd_z23 ct_z23 : Value}
  {tk_MOST_HEAVY : Tok}
  (e_z0 : PySem.W.nsIn K mainGlobals "shortest_ways" = some (some (.ref a_z0))) (l_z0 : K.lookup a_z0 = some ⟨oc_z0, od_z0, .func (PySem.W.fnOf "shortest_ways" "shortest_ways" (defArgs (top 1)) (defBody (top 1)) (defScope (top 1)) .none kV_z0 dc_z0 pm_z0 an_z0 cd_z0 ct_z0), sl_z0⟩) (c_z0 : PySem.W.codeIn K cd_z0 "shortest_ways" = true) (k_z0 : PySem.W.keepIn K (.ref a_z0) = true)
  (e_z1 : PySem.W.nsIn K mainGlobals "is_whole" = some (some (.ref a_z1))) (l_z1 : K.lookup a_z1 = some ⟨oc_z1, od_z1, .func (PySem.W.fnOf "is_whole" "is_whole" (defArgs (top 7)) (defBody (top 7)) (defScope (top 7)) .none kV_z1 dc_z1 pm_z1 an_z1 cd_z1 ct_z1), sl_z1⟩) (c_z1 : PySem.W.codeIn K cd_z1 "is_whole" = true) (k_z1 : PySem.W.keepIn K (.ref a_z1) = true)
  (e_z2 : PySem.W.nsIn K mainGlobals "is_within" = some (some (.ref a_z2))) (l_z2 : K.lookup a_z2 = some ⟨oc_z2, od_z2, .func (PySem.W.fnOf "is_within" "is_within" (defArgs (top 8)) (defBody (top 8)) (defScope (top 8)) .none kV_z2 dc_z2 pm_z2 an_z2 cd_z2 ct_z2), sl_z2⟩) (c_z2 : PySem.W.codeIn K cd_z2 "is_within" = true) (k_z2 : PySem.W.keepIn K (.ref a_z2) = true)
  (e_z3 : PySem.W.nsIn K mainGlobals "is_places" = some (some (.ref a_z3))) (l_z3 : K.lookup a_z3 = some ⟨oc_z3, od_z3, .func (PySem.W.fnOf "is_places" "is_places" (defArgs (top 9)) (defBody (top 9)) (defScope (top 9)) .none kV_z3 dc_z3 pm_z3 an_z3 cd_z3 ct_z3), sl_z3⟩) (c_z3 : PySem.W.codeIn K cd_z3 "is_places" = true) (k_z3 : PySem.W.keepIn K (.ref a_z3) = true)
  (e_z4 : PySem.W.nsIn K mainGlobals "is_place" = some (some (.ref a_z4))) (l_z4 : K.lookup a_z4 = some ⟨oc_z4, od_z4, .func (PySem.W.fnOf "is_place" "is_place" (defArgs (top 10)) (defBody (top 10)) (defScope (top 10)) .none kV_z4 dc_z4 pm_z4 an_z4 cd_z4 ct_z4), sl_z4⟩) (c_z4 : PySem.W.codeIn K cd_z4 "is_place" = true) (k_z4 : PySem.W.keepIn K (.ref a_z4) = true)
  (e_z5 : PySem.W.nsIn K mainGlobals "is_pair" = some (some (.ref a_z5))) (l_z5 : K.lookup a_z5 = some ⟨oc_z5, od_z5, .func (PySem.W.fnOf "is_pair" "is_pair" (defArgs (top 12)) (defBody (top 12)) (defScope (top 12)) .none kV_z5 dc_z5 pm_z5 an_z5 cd_z5 ct_z5), sl_z5⟩) (c_z5 : PySem.W.codeIn K cd_z5 "is_pair" = true) (k_z5 : PySem.W.keepIn K (.ref a_z5) = true)
  (e_z6 : PySem.W.nsIn K mainGlobals "is_heavy_tie" = some (some (.ref a_z6))) (l_z6 : K.lookup a_z6 = some ⟨oc_z6, od_z6, .func (PySem.W.fnOf "is_heavy_tie" "is_heavy_tie" (defArgs (top 11)) (defBody (top 11)) (defScope (top 11)) .none kV_z6 dc_z6 pm_z6 an_z6 cd_z6 ct_z6), sl_z6⟩) (c_z6 : PySem.W.codeIn K cd_z6 "is_heavy_tie" = true) (k_z6 : PySem.W.keepIn K (.ref a_z6) = true)
  (e_z7 : PySem.W.nsIn K mainGlobals "look_at_places" = some (some (.ref a_z7))) (l_z7 : K.lookup a_z7 = some ⟨oc_z7, od_z7, .func (PySem.W.fnOf "look_at_places" "look_at_places" (defArgs (top 13)) (defBody (top 13)) (defScope (top 13)) .none kV_z7 dc_z7 pm_z7 an_z7 cd_z7 ct_z7), sl_z7⟩) (c_z7 : PySem.W.codeIn K cd_z7 "look_at_places" = true) (k_z7 : PySem.W.keepIn K (.ref a_z7) = true)
  (e_z8 : PySem.W.nsIn K mainGlobals "look_at_heavy" = some (some (.ref a_z8))) (l_z8 : K.lookup a_z8 = some ⟨oc_z8, od_z8, .func (PySem.W.fnOf "look_at_heavy" "look_at_heavy" (defArgs (top 16)) (defBody (top 16)) (defScope (top 16)) .none kV_z8 dc_z8 pm_z8 an_z8 cd_z8 ct_z8), sl_z8⟩) (c_z8 : PySem.W.codeIn K cd_z8 "look_at_heavy" = true) (k_z8 : PySem.W.keepIn K (.ref a_z8) = true)
  (e_z9 : PySem.W.nsIn K mainGlobals "side_weight" = some (some (.ref a_z9))) (l_z9 : K.lookup a_z9 = some ⟨oc_z9, od_z9, .func (PySem.W.fnOf "side_weight" "side_weight" (defArgs (top 18)) (defBody (top 18)) (defScope (top 18)) .none kV_z9 dc_z9 pm_z9 an_z9 cd_z9 ct_z9), sl_z9⟩) (c_z9 : PySem.W.codeIn K cd_z9 "side_weight" = true) (k_z9 : PySem.W.keepIn K (.ref a_z9) = true)
  (e_z10 : PySem.W.nsIn K mainGlobals "room" = some (some (.ref a_z10))) (l_z10 : K.lookup a_z10 = some ⟨oc_z10, od_z10, .func (PySem.W.fnOf "room" "room" (defArgs (top 22)) (defBody (top 22)) (defScope (top 22)) .none kV_z10 dc_z10 pm_z10 an_z10 cd_z10 ct_z10), sl_z10⟩) (c_z10 : PySem.W.codeIn K cd_z10 "room" = true) (k_z10 : PySem.W.keepIn K (.ref a_z10) = true)
  (e_z11 : PySem.W.nsIn K mainGlobals "open_steps" = some (some (.ref a_z11))) (l_z11 : K.lookup a_z11 = some ⟨oc_z11, od_z11, .func (PySem.W.fnOf "open_steps" "open_steps" (defArgs (top 21)) (defBody (top 21)) (defScope (top 21)) .none kV_z11 dc_z11 pm_z11 an_z11 cd_z11 ct_z11), sl_z11⟩) (c_z11 : PySem.W.codeIn K cd_z11 "open_steps" = true) (k_z11 : PySem.W.keepIn K (.ref a_z11) = true)
  (e_z12 : PySem.W.nsIn K mainGlobals "flow_to" = some (some (.ref a_z12))) (l_z12 : K.lookup a_z12 = some ⟨oc_z12, od_z12, .func (PySem.W.fnOf "flow_to" "flow_to" (defArgs (top 20)) (defBody (top 20)) (defScope (top 20)) .none kV_z12 dc_z12 pm_z12 an_z12 cd_z12 ct_z12), sl_z12⟩) (c_z12 : PySem.W.codeIn K cd_z12 "flow_to" = true) (k_z12 : PySem.W.keepIn K (.ref a_z12) = true)
  (e_z13 : PySem.W.nsIn K mainGlobals "lightest" = some (some (.ref a_z13))) (l_z13 : K.lookup a_z13 = some ⟨oc_z13, od_z13, .func (PySem.W.fnOf "lightest" "lightest" (defArgs (top 19)) (defBody (top 19)) (defScope (top 19)) .none kV_z13 dc_z13 pm_z13 an_z13 cd_z13 ct_z13), sl_z13⟩) (c_z13 : PySem.W.codeIn K cd_z13 "lightest" = true) (k_z13 : PySem.W.keepIn K (.ref a_z13) = true)
  (e_z14 : PySem.W.nsIn K mainGlobals "_law_cell_at" = some (some (.ref a_z14))) (l_z14 : K.lookup a_z14 = some ⟨oc_z14, od_z14, .func (PySem.W.fnOf "_law_cell_at" "_law_cell_at" (defArgs (top 24)) (defBody (top 24)) (defScope (top 24)) .none kV_z14 dc_z14 pm_z14 an_z14 cd_z14 ct_z14), sl_z14⟩) (c_z14 : PySem.W.codeIn K cd_z14 "_law_cell_at" = true) (k_z14 : PySem.W.keepIn K (.ref a_z14) = true)
  (e_z15 : PySem.W.nsIn K mainGlobals "_law_pool" = some (some (.ref a_z15))) (l_z15 : K.lookup a_z15 = some ⟨oc_z15, od_z15, .func (PySem.W.fnOf "_law_pool" "_law_pool" (defArgs (top 25)) (defBody (top 25)) (defScope (top 25)) .none kV_z15 dc_z15 pm_z15 an_z15 cd_z15 ct_z15), sl_z15⟩) (c_z15 : PySem.W.codeIn K cd_z15 "_law_pool" = true) (k_z15 : PySem.W.keepIn K (.ref a_z15) = true)
  (e_z16 : PySem.W.nsIn K mainGlobals "_law_take" = some (some (.ref a_z16))) (l_z16 : K.lookup a_z16 = some ⟨oc_z16, od_z16, .func (PySem.W.fnOf "_law_take" "_law_take" (defArgs (top 26)) (defBody (top 26)) (defScope (top 26)) .none kV_z16 dc_z16 pm_z16 an_z16 cd_z16 ct_z16), sl_z16⟩) (c_z16 : PySem.W.codeIn K cd_z16 "_law_take" = true) (k_z16 : PySem.W.keepIn K (.ref a_z16) = true)
  (e_z17 : PySem.W.nsIn K mainGlobals "_law_heavy" = some (some (.ref a_z17))) (l_z17 : K.lookup a_z17 = some ⟨oc_z17, od_z17, .func (PySem.W.fnOf "_law_heavy" "_law_heavy" (defArgs (top 27)) (defBody (top 27)) (defScope (top 27)) .none kV_z17 dc_z17 pm_z17 an_z17 cd_z17 ct_z17), sl_z17⟩) (c_z17 : PySem.W.codeIn K cd_z17 "_law_heavy" = true) (k_z17 : PySem.W.keepIn K (.ref a_z17) = true)
  (e_z18 : PySem.W.nsIn K mainGlobals "_law_whole" = some (some (.ref a_z18))) (l_z18 : K.lookup a_z18 = some ⟨oc_z18, od_z18, .func (PySem.W.fnOf "_law_whole" "_law_whole" (defArgs (top 28)) (defBody (top 28)) (defScope (top 28)) .none kV_z18 dc_z18 pm_z18 an_z18 cd_z18 ct_z18), sl_z18⟩) (c_z18 : PySem.W.codeIn K cd_z18 "_law_whole" = true) (k_z18 : PySem.W.keepIn K (.ref a_z18) = true)
  (e_z19 : PySem.W.nsIn K mainGlobals "_law_weight" = some (some (.ref a_z19))) (l_z19 : K.lookup a_z19 = some ⟨oc_z19, od_z19, .func (PySem.W.fnOf "_law_weight" "_law_weight" (defArgs (top 29)) (defBody (top 29)) (defScope (top 29)) .none kV_z19 dc_z19 pm_z19 an_z19 cd_z19 ct_z19), sl_z19⟩) (c_z19 : PySem.W.codeIn K cd_z19 "_law_weight" = true) (k_z19 : PySem.W.keepIn K (.ref a_z19) = true)
  (e_z20 : PySem.W.nsIn K mainGlobals "_law_is_side" = some (some (.ref a_z20))) (l_z20 : K.lookup a_z20 = some ⟨oc_z20, od_z20, .func (PySem.W.fnOf "_law_is_side" "_law_is_side" (defArgs (top 30)) (defBody (top 30)) (defScope (top 30)) .none kV_z20 dc_z20 pm_z20 an_z20 cd_z20 ct_z20), sl_z20⟩) (c_z20 : PySem.W.codeIn K cd_z20 "_law_is_side" = true) (k_z20 : PySem.W.keepIn K (.ref a_z20) = true)
  (e_z21 : PySem.W.nsIn K mainGlobals "_law_leads" = some (some (.ref a_z21))) (l_z21 : K.lookup a_z21 = some ⟨oc_z21, od_z21, .func (PySem.W.fnOf "_law_leads" "_law_leads" (defArgs (top 31)) (defBody (top 31)) (defScope (top 31)) .none kV_z21 dc_z21 pm_z21 an_z21 cd_z21 ct_z21), sl_z21⟩) (c_z21 : PySem.W.codeIn K cd_z21 "_law_leads" = true) (k_z21 : PySem.W.keepIn K (.ref a_z21) = true)
  (e_z22 : PySem.W.nsIn K mainGlobals "_law_right" = some (some (.ref a_z22))) (l_z22 : K.lookup a_z22 = some ⟨oc_z22, od_z22, .func (PySem.W.fnOf "_law_right" "_law_right" (defArgs (top 32)) (defBody (top 32)) (defScope (top 32)) .none kV_z22 dc_z22 pm_z22 an_z22 cd_z22 ct_z22), sl_z22⟩) (c_z22 : PySem.W.codeIn K cd_z22 "_law_right" = true) (k_z22 : PySem.W.keepIn K (.ref a_z22) = true)
  (e_z23 : PySem.W.nsIn K mainGlobals "law" = some (some (.ref a_z23))) (l_z23 : K.lookup a_z23 = some ⟨oc_z23, od_z23, .func (PySem.W.fnOf "law" "law" (defArgs (top 33)) (defBody (top 33)) (defScope (top 33)) .none kV_z23 dc_z23 pm_z23 an_z23 cd_z23 ct_z23), sl_z23⟩) (c_z23 : PySem.W.codeIn K cd_z23 "law" = true) (k_z23 : PySem.W.keepIn K (.ref a_z23) = true)
  (z_abs : PySem.W.nsIn K mainGlobals "abs" = some none)
  (z_all : PySem.W.nsIn K mainGlobals "all" = some none)
  (z_bool : PySem.W.nsIn K mainGlobals "bool" = some none)
  (z_enumerate : PySem.W.nsIn K mainGlobals "enumerate" = some none)
  (z_int : PySem.W.nsIn K mainGlobals "int" = some none)
  (z_isinstance : PySem.W.nsIn K mainGlobals "isinstance" = some none)
  (z_len : PySem.W.nsIn K mainGlobals "len" = some none)
  (z_list : PySem.W.nsIn K mainGlobals "list" = some none)
  (z_max : PySem.W.nsIn K mainGlobals "max" = some none)
  (z_min : PySem.W.nsIn K mainGlobals "min" = some none)
  (z_range : PySem.W.nsIn K mainGlobals "range" = some none)
  (z_sum : PySem.W.nsIn K mainGlobals "sum" = some none)
  (z_tuple : PySem.W.nsIn K mainGlobals "tuple" = some none)
  (z_zip : PySem.W.nsIn K mainGlobals "zip" = some none)
  (y_MOST_HEAVY : PySem.W.nsIn K mainGlobals "MOST_HEAVY" = some (some (.int 40 tk_MOST_HEAVY))) :
  ∃ fd : FuncData, (∀ (s : Shared) (v : Value), BindsTo s fd ⟨[v], []⟩ [("script", v)]) ∧ ∀ base : Heap, K.In base → base.Ns mainGlobals mg → FnOk l.prog w K mg base CX0 8 fa fd ["script"] (spD f_z23) := by
 have e := hfa.symm.trans (PySem.W.mg_of X G e_z23)
 cases e
 have F_z0 := fun_mk (st := top 1) l_z0 c_z0 k_z0
 have b_z0 := F_z0.binds2 (ps := ["steps", "a"]) rfl fun _ _ _ _ _ _ _ _ => rfl
 have F_z1 := fun_mk (st := top 7) l_z1 c_z1 k_z1
 have b_z1 := F_z1.binds1 (ps := ["thing"]) rfl fun _ _ _ _ _ _ _ => rfl
 have F_z2 := fun_mk (st := top 8) l_z2 c_z2 k_z2
 have b_z2 := F_z2.binds3 (ps := ["thing", "low", "high"]) rfl fun _ _ _ _ _ _ _ _ _ => rfl
 have F_z3 := fun_mk (st := top 9) l_z3 c_z3 k_z3
 have b_z3 := F_z3.binds1 (ps := ["thing"]) rfl fun _ _ _ _ _ _ _ => rfl
 have F_z4 := fun_mk (st := top 10) l_z4 c_z4 k_z4
 have b_z4 := F_z4.binds2 (ps := ["n", "thing"]) rfl fun _ _ _ _ _ _ _ _ => rfl
 have F_z5 := fun_mk (st := top 12) l_z5 c_z5 k_z5
 have b_z5 := F_z5.binds3 (ps := ["n", "a", "b"]) rfl fun _ _ _ _ _ _ _ _ _ => rfl
 have F_z6 := fun_mk (st := top 11) l_z6 c_z6 k_z6
 have b_z6 := F_z6.binds2 (ps := ["n", "thing"]) rfl fun _ _ _ _ _ _ _ _ => rfl
 have F_z7 := fun_mk (st := top 13) l_z7 c_z7 k_z7
 have b_z7 := F_z7.binds1 (ps := ["n"]) rfl fun _ _ _ _ _ _ _ => rfl
 have F_z8 := fun_mk (st := top 16) l_z8 c_z8 k_z8
 have b_z8 := F_z8.binds2 (ps := ["n", "heavy"]) rfl fun _ _ _ _ _ _ _ _ => rfl
 have F_z9 := fun_mk (st := top 18) l_z9 c_z9 k_z9
 have b_z9 := F_z9.binds2 (ps := ["heavy", "side"]) rfl fun _ _ _ _ _ _ _ _ => rfl
 have F_z10 := fun_mk (st := top 22) l_z10 c_z10 k_z10
 have b_z10 := F_z10.binds3 (ps := ["heavy", "flow", "push"]) rfl fun _ _ _ _ _ _ _ _ _ => rfl
 have F_z11 := fun_mk (st := top 21) l_z11 c_z11 k_z11
 have b_z11 := F_z11.binds3 (ps := ["n", "heavy", "flow"]) rfl fun _ _ _ _ _ _ _ _ _ => rfl
 have F_z12 := fun_mk (st := top 20) l_z12 c_z12 k_z12
 have b_z12 := F_z12.binds4 (ps := ["n", "heavy", "place", "most"]) rfl fun _ _ _ _ _ _ _ _ _ _ => rfl
 have F_z13 := fun_mk (st := top 19) l_z13 c_z13 k_z13
 have b_z13 := F_z13.binds2 (ps := ["n", "heavy"]) rfl fun _ _ _ _ _ _ _ _ => rfl
 have F_z14 := fun_mk (st := top 24) l_z14 c_z14 k_z14
 have b_z14 := F_z14.binds2 (ps := ["script", "k"]) rfl fun _ _ _ _ _ _ _ _ => rfl
 have F_z15 := fun_mk (st := top 25) l_z15 c_z15 k_z15
 have b_z15 := F_z15.binds2 (ps := ["script", "at"]) rfl fun _ _ _ _ _ _ _ _ => rfl
 have F_z16 := fun_mk (st := top 26) l_z16 c_z16 k_z16
 have b_z16 := F_z16.binds2 (ps := ["pool", "many"]) rfl fun _ _ _ _ _ _ _ _ => rfl
 have F_z17 := fun_mk (st := top 27) l_z17 c_z17 k_z17
 have b_z17 := F_z17.binds3 (ps := ["pool", "n", "most"]) rfl fun _ _ _ _ _ _ _ _ _ => rfl
 have F_z18 := fun_mk (st := top 28) l_z18 c_z18 k_z18
 have b_z18 := F_z18.binds1 (ps := ["found"]) rfl fun _ _ _ _ _ _ _ => rfl
 have F_z19 := fun_mk (st := top 29) l_z19 c_z19 k_z19
 have b_z19 := F_z19.binds2 (ps := ["heavy", "side"]) rfl fun _ _ _ _ _ _ _ _ => rfl
 have F_z20 := fun_mk (st := top 30) l_z20 c_z20 k_z20
 have b_z20 := F_z20.binds2 (ps := ["n", "side"]) rfl fun _ _ _ _ _ _ _ _ => rfl
 have F_z21 := fun_mk (st := top 31) l_z21 c_z21 k_z21
 have b_z21 := F_z21.binds5 (ps := ["n", "heavy", "flow", "place", "weight"]) rfl fun _ _ _ _ _ _ _ _ _ _ _ => rfl
 have F_z22 := fun_mk (st := top 32) l_z22 c_z22 k_z22
 have b_z22 := F_z22.binds3 (ps := ["n", "heavy", "found"]) rfl fun _ _ _ _ _ _ _ _ _ => rfl
 have F_z23 := fun_mk (st := top 33) l_z23 c_z23 k_z23
 refine ⟨PySem.W.fnOf "law" "law" (defArgs (top 33)) (defBody (top 33)) (defScope (top 33)) .none kV_z23 dc_z23 pm_z23 an_z23 cd_z23 ct_z23, fun s v => .of_eq rfl, fun base Xb _ => ?_⟩
 have T : Txt mg K base a_z0 a_z1 a_z2 a_z3 a_z4 a_z5 a_z6 a_z7 a_z8 a_z9 a_z10 a_z11 a_z12 a_z13 a_z14 a_z15 a_z16 a_z17 a_z18 a_z19 a_z20 a_z21 a_z22 fa := ⟨PySem.W.mg_none_of X G z_abs,PySem.W.mg_none_of X G z_all,PySem.W.mg_none_of X G z_bool,PySem.W.mg_none_of X G z_enumerate,PySem.W.mg_none_of X G z_int,PySem.W.mg_none_of X G z_isinstance,PySem.W.mg_none_of X G z_len,PySem.W.mg_none_of X G z_list,PySem.W.mg_none_of X G z_max,PySem.W.mg_none_of X G z_min,PySem.W.mg_none_of X G z_range,PySem.W.mg_none_of X G z_sum,PySem.W.mg_none_of X G z_tuple,PySem.W.mg_none_of X G z_zip,⟨_,PySem.W.mg_of X G y_MOST_HEAVY⟩,PySem.W.mg_of X G e_z0,PySem.W.mg_of X G e_z1,PySem.W.mg_of X G e_z2,PySem.W.mg_of X G e_z3,PySem.W.mg_of X G e_z4,PySem.W.mg_of X G e_z5,PySem.W.mg_of X G e_z6,PySem.W.mg_of X G e_z7,PySem.W.mg_of X G e_z8,PySem.W.mg_of X G e_z9,PySem.W.mg_of X G e_z10,PySem.W.mg_of X G e_z11,PySem.W.mg_of X G e_z12,PySem.W.mg_of X G e_z13,PySem.W.mg_of X G e_z14,PySem.W.mg_of X G e_z15,PySem.W.mg_of X G e_z16,PySem.W.mg_of X G e_z17,PySem.W.mg_of X G e_z18,PySem.W.mg_of X G e_z19,PySem.W.mg_of X G e_z20,PySem.W.mg_of X G e_z21,PySem.W.mg_of X G e_z22,PySem.W.mg_of X G e_z23⟩
 have G_z0 := ok_z0 (P' := l.prog) (w := w) (base := base) T F_z0 
 have G_z1 := ok_z1 (P' := l.prog) (w := w) (base := base) T F_z1 
 have G_z2 := ok_z2 (P' := l.prog) (w := w) (base := base) T F_z2 F_z1 b_z1 G_z1
 have G_z3 := ok_z3 (P' := l.prog) (w := w) (base := base) T F_z3 F_z2 b_z2 G_z2
 have G_z4 := ok_z4 (P' := l.prog) (w := w) (base := base) T F_z4 F_z2 b_z2 G_z2
 have G_z5 := ok_z5 (P' := l.prog) (w := w) (base := base) T F_z5 F_z4 b_z4 G_z4
 have G_z6 := ok_z6 (P' := l.prog) (w := w) (base := base) T F_z6 F_z2 b_z2 G_z2 F_z5 b_z5 G_z5
 have G_z7 := ok_z7 (P' := l.prog) (w := w) (base := base) T F_z7 F_z3 b_z3 G_z3
 have G_z8 := ok_z8 (P' := l.prog) (w := w) (base := base) T F_z8 F_z6 b_z6 G_z6 F_z7 b_z7 G_z7
 have G_z9 := ok_z9 (P' := l.prog) (w := w) (base := base) T F_z9 
 have G_z10 := ok_z10 (P' := l.prog) (w := w) (base := base) T F_z10 
 have G_z11 := ok_z11 (P' := l.prog) (w := w) (base := base) T F_z11 F_z10 b_z10 G_z10
 have GP_open_steps := okP_open_steps (P' := l.prog) (w := w) (base := base) T F_z11 F_z10 b_z10 G_z10
 have G_z12 := ok_z12 (P' := l.prog) (w := w) (base := base) T F_z12 F_z0 b_z0 G_z0 F_z10 b_z10 G_z10 F_z11 b_z11 G_z11 GP_open_steps
 have GP_flow_to := okP_flow_to (P' := l.prog) (w := w) (base := base) T F_z12 F_z0 b_z0 G_z0 F_z10 b_z10 G_z10 F_z11 b_z11 G_z11 GP_open_steps
 have G_z13 := ok_z13 (P' := l.prog) (w := w) (base := base) T F_z13 F_z8 b_z8 G_z8 F_z9 b_z9 G_z9 F_z12 b_z12 G_z12
 have GP_lightest := okP_lightest (P' := l.prog) (w := w) (base := base) T F_z13 F_z8 b_z8 G_z8 F_z9 b_z9 G_z9 F_z12 b_z12 G_z12 GP_flow_to
 have G_z14 := ok_z14 (P' := l.prog) (w := w) (base := base) T F_z14 
 have G_z15 := ok_z15 (P' := l.prog) (w := w) (base := base) T F_z15 F_z14 b_z14 G_z14
 have G_z16 := ok_z16 (P' := l.prog) (w := w) (base := base) T F_z16 
 have G_z17 := ok_z17 (P' := l.prog) (w := w) (base := base) T F_z17 F_z16 b_z16 G_z16
 have G_z18 := ok_z18 (P' := l.prog) (w := w) (base := base) T F_z18 
 have G_z19 := ok_z19 (P' := l.prog) (w := w) (base := base) T F_z19 
 have G_z20 := ok_z20 (P' := l.prog) (w := w) (base := base) T F_z20 F_z18 b_z18 G_z18
 have G_z21 := ok_z21 (P' := l.prog) (w := w) (base := base) T F_z21 F_z18 b_z18 G_z18
 have G_z22 := ok_z22 (P' := l.prog) (w := w) (base := base) T F_z22 F_z18 b_z18 G_z18 F_z19 b_z19 G_z19 F_z20 b_z20 G_z20 F_z21 b_z21 G_z21
 exact ok_z23 T F_z23 F_z13 b_z13 G_z13 F_z15 b_z15 G_z15 F_z16 b_z16 G_z16 F_z17 b_z17 G_z17 F_z22 b_z22 G_z22 GP_lightest
theorem walk {l : PySem.W.OpenLaw} {q : Program} {loose : List Str} {XP : (Str → Option Value) → Heap → Prop} {YP : World → Heap → Prop} {d : DefRec} {K : Params → PySem.W.Frag} (hn : l.most = some 63) (hdf : d.params.defaults = [])
  (hY : ∀ (w : World) (h : Heap),YP w h → (K w.params).In h) (M : ∀ ns : List Int,ns.length ≤ 63 → f_z23 [.lst (ns.map Dat.int)] = some (.val (.bl true))) (hK : ∀ w : World,noList (K w.params) = true)
  (F : ∀ (w : World) (mg : Str → Option Value) (fa : Addr) (h : Heap),(K w.params).In h → h.Ns mainGlobals mg → mg d.name = some (.ref fa) →
   ∃ fd : FuncData, (∀ (s : Shared) (u : Value), BindsTo s fd ⟨[u], []⟩ [("script", u)]) ∧ ∀ base : Heap, (K w.params).In base → base.Ns mainGlobals mg → FnOk l.prog w (K w.params) mg base CX0 8 fa fd ["script"] (spD f_z23)) :
  PySem.W.WalkO q loose XP YP l.row.toRowW d [] (fun f vs => PySem.call f vs) :=
 L2.walk_of (n := 63) (k := 8) (x := "script") (CX := fun _ => CX0) (sp := fun _ => spD f_z23) hn (by decide) hdf ⟨rfl, by decide, by decide⟩ hY F
  (fun w H a ns hl hO hS => law_sp (M ns hl) (hK w) hS) fun _ _ _ _ _ z => z
open PySem PySem.W PySem.W.X
theorem walkX_of {q : Program} {loose : List Str} {XP : (Str → Option Value) → Heap → Prop} {r : RowW} {d : DefRec} {kwd : List (Str × Expr)} {run : Value → List Value → Sem Value} {K : Params → Frag} {as : List Addr} {n t : Nat} (e : ∀ P,as = (K P).map (·.1))
  (W : WalkO q loose XP (fun w h => (K w.params).In h) r d kwd run) : WalkX q loose XP (obsZ as) (valZ K n t) r d kwd run :=
 fun w s₀ s₁ mg mb G y a o pm cd doc dV kV ho hd hcd hD hmg hg args vals as' L => W w s₀ s₁ mg mb G (InK.keeps w _ _ (z_facts e y).2.1 L.keeps) a o pm cd doc dV kV ho hd hcd hD hmg hg args vals as'
end Q
open PySem PySem.W PyProof.Rows
set_option maxRecDepth 100000 in
set_option maxHeartbeats 0 in
theorem PySem.Challenge.cw_sinceply_k52_lightest_told_holds : PySem.Challenge.rw_sinceply_k52_lightest_told.Holds := by
 w_on; o_law; z_head; (case hw => w_witness2)
 k_fill
 refine' Q.walkX_of (fun _ => rfl) (Q.walk (l := PySem.Challenge.rw_sinceply_k52_lightest_told) rfl rfl (fun w h Y => Y) P.math ?noL ?fnS)
 case noL => intro w; rfl
 case fnS =>
  intro w mg fa h KX G hmg
  refine' Q.all_mk KX G hmg ?e_z0 ?l_z0 ?c_z0 ?k_z0 ?e_z1 ?l_z1 ?c_z1 ?k_z1 ?e_z2 ?l_z2 ?c_z2 ?k_z2 ?e_z3 ?l_z3 ?c_z3 ?k_z3 ?e_z4 ?l_z4 ?c_z4 ?k_z4 ?e_z5 ?l_z5 ?c_z5 ?k_z5 ?e_z6 ?l_z6 ?c_z6 ?k_z6 ?e_z7 ?l_z7 ?c_z7 ?k_z7 ?e_z8 ?l_z8 ?c_z8 ?k_z8 ?e_z9 ?l_z9 ?c_z9 ?k_z9 ?e_z10 ?l_z10 ?c_z10 ?k_z10 ?e_z11 ?l_z11 ?c_z11 ?k_z11 ?e_z12 ?l_z12 ?c_z12 ?k_z12 ?e_z13 ?l_z13 ?c_z13 ?k_z13 ?e_z14 ?l_z14 ?c_z14 ?k_z14 ?e_z15 ?l_z15 ?c_z15 ?k_z15 ?e_z16 ?l_z16 ?c_z16 ?k_z16 ?e_z17 ?l_z17 ?c_z17 ?k_z17 ?e_z18 ?l_z18 ?c_z18 ?k_z18 ?e_z19 ?l_z19 ?c_z19 ?k_z19 ?e_z20 ?l_z20 ?c_z20 ?k_z20 ?e_z21 ?l_z21 ?c_z21 ?k_z21 ?e_z22 ?l_z22 ?c_z22 ?k_z22 ?e_z23 ?l_z23 ?c_z23 ?k_z23 ?z_abs ?z_all ?z_bool ?z_enumerate ?z_int ?z_isinstance ?z_len ?z_list ?z_max ?z_min ?z_range ?z_sum ?z_tuple ?z_zip ?y_MOST_HEAVY
  (case e_z0 => k_is)
  (case l_z0 => k_is)
  (case c_z0 => k_is)
  (case k_z0 => k_is)
  (case e_z1 => k_is)
  (case l_z1 => k_is)
  (case c_z1 => k_is)
  (case k_z1 => k_is)
  (case e_z2 => k_is)
  (case l_z2 => k_is)
  (case c_z2 => k_is)
  (case k_z2 => k_is)
  (case e_z3 => k_is)
  (case l_z3 => k_is)
  (case c_z3 => k_is)
  (case k_z3 => k_is)
  (case e_z4 => k_is)
  (case l_z4 => k_is)
  (case c_z4 => k_is)
  (case k_z4 => k_is)
  (case e_z5 => k_is)
  (case l_z5 => k_is)
  (case c_z5 => k_is)
  (case k_z5 => k_is)
  (case e_z6 => k_is)
  (case l_z6 => k_is)
  (case c_z6 => k_is)
  (case k_z6 => k_is)
  (case e_z7 => k_is)
  (case l_z7 => k_is)
  (case c_z7 => k_is)
  (case k_z7 => k_is)
  (case e_z8 => k_is)
  (case l_z8 => k_is)
  (case c_z8 => k_is)
  (case k_z8 => k_is)
  (case e_z9 => k_is)
  (case l_z9 => k_is)
  (case c_z9 => k_is)
  (case k_z9 => k_is)
  (case e_z10 => k_is)
  (case l_z10 => k_is)
  (case c_z10 => k_is)
  (case k_z10 => k_is)
  (case e_z11 => k_is)
  (case l_z11 => k_is)
  (case c_z11 => k_is)
  (case k_z11 => k_is)
  (case e_z12 => k_is)
  (case l_z12 => k_is)
  (case c_z12 => k_is)
  (case k_z12 => k_is)
  (case e_z13 => k_is)
  (case l_z13 => k_is)
  (case c_z13 => k_is)
  (case k_z13 => k_is)
  (case e_z14 => k_is)
  (case l_z14 => k_is)
  (case c_z14 => k_is)
  (case k_z14 => k_is)
  (case e_z15 => k_is)
  (case l_z15 => k_is)
  (case c_z15 => k_is)
  (case k_z15 => k_is)
  (case e_z16 => k_is)
  (case l_z16 => k_is)
  (case c_z16 => k_is)
  (case k_z16 => k_is)
  (case e_z17 => k_is)
  (case l_z17 => k_is)
  (case c_z17 => k_is)
  (case k_z17 => k_is)
  (case e_z18 => k_is)
  (case l_z18 => k_is)
  (case c_z18 => k_is)
  (case k_z18 => k_is)
  (case e_z19 => k_is)
  (case l_z19 => k_is)
  (case c_z19 => k_is)
  (case k_z19 => k_is)
  (case e_z20 => k_is)
  (case l_z20 => k_is)
  (case c_z20 => k_is)
  (case k_z20 => k_is)
  (case e_z21 => k_is)
  (case l_z21 => k_is)
  (case c_z21 => k_is)
  (case k_z21 => k_is)
  (case e_z22 => k_is)
  (case l_z22 => k_is)
  (case c_z22 => k_is)
  (case k_z22 => k_is)
  (case e_z23 => k_is)
  (case l_z23 => k_is)
  (case c_z23 => k_is)
  (case k_z23 => k_is)
  (case z_abs => k_is)
  (case z_all => k_is)
  (case z_bool => k_is)
  (case z_enumerate => k_is)
  (case z_int => k_is)
  (case z_isinstance => k_is)
  (case z_len => k_is)
  (case z_list => k_is)
  (case z_max => k_is)
  (case z_min => k_is)
  (case z_range => k_is)
  (case z_sum => k_is)
  (case z_tuple => k_is)
  (case z_zip => k_is)
  (case y_MOST_HEAVY => k_is)
end
