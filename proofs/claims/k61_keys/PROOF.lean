import PyProof.Rows.All
import Wide.All
import OpenK.AllK
import Wide.FinOn
import Lean
import PyProof.EqAt
import PyProof.EqKinds
import PyProof.TupleCall
import KE.KSortTup
import PySem.SetTable
import PyProof.SetScanFacts
import PyProof.SetKind
import PyProof.SetRoads
import PyProof.DictKinds
import PyProof.SetNew
import PyProof.Rows.SetFrom
import PyProof.CollectWalk
import PyProof.MeetsSeq2
import PyProof.Walks
import PyProof.DictIter
import PyProof.FactsAll.set_1
import PyProof.FactsAll.set_2
import PyProof.Rows.SortWalk
import PyProof.FactsAll.subtypes_5
import PyProof.AttrMiss
import PyProof.IsiH_list
import PyProof.Rows.SortShell
import KE.KDictOf
import PyProof.ConsumeS
import PyProof.ZipIter
import PyProof.EnumStmt
import PyProof.EnumMake
import PyProof.Rows.EnumRows
import PyProof.Rows.SortShellK
import PyProof.DictWalks
import KE.KDictList
import KE.KLam
import KE.KDictLaws
import PyProof.FactsAll.NoneType_1
import PyProof.P3In
import PySem.Challenge.RW_whenrows_k61_keys
set_option Elab.async false
set_option linter.all false
set_option maxRecDepth 100000
namespace L2
open PySem PySem.Spec PyProof.Rows
abbrev Key:=Sum Int Str
def zib:Key → Value → Bool
 | .inl k,v=>Value.isInt k v
 | .inr x,v=>Value.isStrOf x v
def keyH (w:World) : Key → Int
 | .inl k=>hashInt k
 | .inr x=>hashStr w x
theorem zaL:∀ {k:Key} {v:Value},zib k v = true → (∃ i t,k = Sum.inl i ∧ v = Value.int i t) ∨ (∃ x t,k = Sum.inr x ∧ v = Value.str x t)
 | .inl i,v,h=>by
  obtain ⟨t,e⟩:=Value.isInt_shape (k:=i) (v:=v) h
  exact .inl ⟨i,t,rfl,e⟩
 | .inr x,v,h=>by
  obtain ⟨t,e⟩:=Value.isStrOf_shape (x:=x) (v:=v) h
  exact .inr ⟨x,t,rfl,e⟩
theorem ziQ (i:Int) (t:Tok) : zib (.inl i) (.int i t) = true:=by simp [zib,Value.isInt]
theorem zjv (x:Str) (t:Tok) : zib (.inr x) (.str x t) = true:=by simp [zib,Value.isStrOf]
theorem znv (a b:Int) : decide ((Sum.inl a:Key) = Sum.inl b) = (a == b):=by
 by_cases e:a = b
 ·subst e; simp
 ·have h : ¬ (Sum.inl a:Key) = Sum.inl b:=fun q=>e (Sum.inl.inj q)
  rw [decide_eq_false h]
  exact (beq_eq_false_iff_ne.mpr e).symm
theorem znW (a b:Str) : decide ((Sum.inr a:Key) = Sum.inr b) = decide (a = b):=by
 by_cases e:a = b
 ·subst e; simp
 ·have h : ¬ (Sum.inr a:Key) = Sum.inr b:=fun q=>e (Sum.inr.inj q)
  rw [decide_eq_false h,decide_eq_false e]
theorem zm1 (a:Int) (b:Str) : decide ((Sum.inl a:Key) = Sum.inr b) = false:=decide_eq_false (fun q=>nomatch q)
theorem znA (a:Str) (b:Int) : decide ((Sum.inr a:Key) = Sum.inl b) = false:=decide_eq_false (fun q=>nomatch q)
def za3 (prog:Program) (w:World) : PySem.KeyKind prog w Key where
 is:=zib
 hash:=keyH w
 inj:=fun v a b ha hb=>by
  rcases zaL ha with ⟨i,t,rfl,rfl⟩ | ⟨x,t,rfl,rfl⟩
  ·rcases zaL hb with ⟨j,u,rfl,e⟩ | ⟨y,u,rfl,e⟩
   ·injection e with e1 _; rw [e1]
   ·exact nomatch e
  ·rcases zaL hb with ⟨j,u,rfl,e⟩ | ⟨y,u,rfl,e⟩
   ·exact nomatch e
   ·injection e with e1 _; rw [e1]
 byValue:=fun k v h=>by
  rcases zaL h with ⟨i,t,rfl,rfl⟩ | ⟨x,t,rfl,rfl⟩ <;> rfl
 pyHash:=fun hv h=>by
  rcases zaL hv with ⟨i,t,rfl,rfl⟩ | ⟨x,t,rfl,rfl⟩
  ·exact wpAny_pyHash_int h
  ·exact wpAny_pyHash_str h
 eqBool:=fun hu hv h=>by
  rcases zaL hu with ⟨i,t,rfl,rfl⟩ | ⟨x,t,rfl,rfl⟩
  ·rcases zaL hv with ⟨j,u,rfl,rfl⟩ | ⟨y,u,rfl,rfl⟩
   ·rw [znv] at h; exact wpAny_eqBool_int h
   ·rw [zm1] at h; exact SeqAt.EqAt.int_str i t y u _ _ _ _ h
  ·rcases zaL hv with ⟨j,u,rfl,rfl⟩ | ⟨y,u,rfl,rfl⟩
   ·rw [znA] at h; exact SeqAt.EqAt.str_int x t j u _ _ _ _ h
   ·rw [znW] at h; exact wpAny_eqBool_str h
 «strs» := fun k x t v h=>by
  rcases zaL h with ⟨i,u,rfl,e⟩ | ⟨y,u,rfl,e⟩
  ·exact nomatch e
  ·injection e with e1 _
   subst e1
   cases v <;> rfl
theorem zgQ (prog:Program) (w:World) (i:Int) (t:Tok) : (za3 prog w).is (.inl i) (.int i t) = true:=ziQ i t
theorem zg1 (prog:Program) (w:World) (x:Str) (t:Tok) : (za3 prog w).is (.inr x) (.str x t) = true:=zjv x t
end L2
namespace L2
open PySem PySem.Spec PyProof.Rows
inductive V where
 | non | bl (b:Bool) | int (i:Int) | str (x:Str) | byt (b:Array UInt8) | flt (b:UInt64) | ref (a:Addr) | ty (n:String)
 deriving DecidableEq
def RelV:V → Value → Prop
 | .non,u=>u = Value.none
 | .bl b,u=>u = Value.bool b
 | .int i,u=>∃ t,u = Value.int i t
 | .str x,u=>∃ t,u = Value.str x t
 | .byt b,u=>∃ t,u = Value.bytes b t
 | .flt b,u=>∃ t,u = Value.float b t
 | .ref a,u=>u = Value.ref a
 | .ty n,u=>u = Value.type n
abbrev Vals:List V → List Value → Prop:=Paired RelV
theorem Vals.length {xs:List V} {us:List Value} (r:Vals xs us) : xs.length = us.length:=Paired.length r
theorem Vals.get:∀ {xs:List V} {us:List Value} {i:Nat} {x:V},Vals xs us → xs[i]? = some x → ∃ u,us[i]? = some u ∧ RelV x u
 | _,_,_,_,.nil,e=>by simp at e
 | _,_,0,_,.cons r _,e=>by simp at e; subst e; exact ⟨_,rfl,r⟩
 | _,_,i + 1,x,.cons _ t,e=>by
  obtain ⟨u,h1,h2⟩:=Vals.get (i:=i) (x:=x) t (by simpa using e)
  exact ⟨u,by simpa using h1,h2⟩
theorem Vals.set {x:V} {u:Value} (r:RelV x u) : ∀ {xs:List V} {us:List Value} (i:Nat),Vals xs us → Vals (xs.set i x) (us.set i u)
 | _,_,_,.nil=>.nil
 | _,_,0,.cons _ t=>.cons r t
 | _,_,i + 1,.cons q t=>.cons q (Vals.set r i t)
theorem Vals.append:∀ {xs ys:List V} {us ws:List Value},Vals xs us → Vals ys ws → Vals (xs ++ ys) (us ++ ws)
 | _,_,_,_,.nil,s=>s
 | _,_,_,_,.cons r t,s=>.cons r (Vals.append t s)
theorem Vals.take:∀ {xs:List V} {us:List Value} (n:Nat),Vals xs us → Vals (xs.take n) (us.take n)
 | _,_,0,_=>.nil
 | _,_,_ + 1,.nil=>.nil
 | _,_,n + 1,.cons r t=>.cons r (Vals.take n t)
theorem Vals.drop:∀ {xs:List V} {us:List Value} (n:Nat),Vals xs us → Vals (xs.drop n) (us.drop n)
 | _,_,0,r=>r
 | _,_,_ + 1,.nil=>.nil
 | _,_,n + 1,.cons _ t=>Vals.drop n t
def RelO:Option V → Option Value → Prop
 | some v,some u=>RelV v u
 | none,none=>True
 | _,_=>False
def KV {κ:Type} : List (κ × V) → List (κ × Value) → Prop:=Paired fun (p:κ × V) (q:κ × Value)=>p.1 = q.1 ∧ RelV p.2 q.2
def kV:Key → V
 | .inl i=>.int i
 | .inr x=>.str x
inductive HO where
  | lst (xs:List V)
  | tup (xs:List V)
  | dK (kvs:List (Key × V)) | dT (kvs:List (List Key × V))
  | set (S:Int → Bool) (n:Nat)
  | ins (C dx:Addr) (fs:List (Str × V))
  | own (x:Addr)
  | xd (fs:List (Str × V))
  | met (f x:Addr)
  | rng (lo hi:Int)
  | frz (o:Obj) (u:HO)
  | tbl (ps:Array Value)
  | ext (φ:Heap → Prop)
abbrev Hp:=Addr → Option HO
def upd (H:Hp) (a:Addr) (o:HO) : Hp:=fun b=>if b = a then some o else H b
theorem zaa {H:Hp} {a:Addr} {o:HO} : upd H a o a = some o:=by unfold upd; rw [if_pos rfl]
theorem zai {H:Hp} {a b:Addr} {o:HO} (h:b ≠ a) : upd H a o b = H b:=by unfold upd; rw [if_neg h]
theorem zbt {H:Hp} {a b:Addr} {o u:HO} (h:H a = some o) (h':H b = some u) (d:o ≠ u) : a ≠ b:=by
 intro e; subst e; rw [h] at h'; exact d (Option.some.inj h')
theorem zaq {H:Hp} {a b:Addr} {o:HO} (h:H a = some o) (h':H b = none) : a ≠ b:=by
 intro e; subst e; rw [h] at h'; cases h'
section
variable (P:Program) (w:World)
def ObjOk (H:Hp) (h:Heap) (a:Addr) : HO → Prop
 | .lst xs=>xs.length ≤ sizeLine ∧ ∃ (its:List Value) (n:Nat),Vals xs its ∧ h.get? a = some { cls:=.type "list", data:=.seq its.toArray n }
 | .tup xs=>xs.length ≤ sizeLine ∧ ∃ its:List Value,Vals xs its ∧ IsTup h a its.toArray
 | .dK kvs=>kvs.length ≤ sizeLine ∧ (a == sysModules) = false ∧ ∃ vs,KV kvs vs ∧ h.DictOf (za3 P w) a vs
 | .dT kvs => kvs.length ≤ sizeLine ∧ (a == sysModules) = false ∧ ∃ xs : List (List Key × Addr × Value),
   Paired (fun (p:List Key × V) (q:List Key × Addr × Value)=>p.1 = q.1 ∧ H q.2.1 = some (.tup (p.1.map kV)) ∧ RelV p.2 q.2.2) kvs xs ∧
   ∃ o es ep,h.get? a = some o ∧ o.ExactDict ∧ o.data = .dict es ep ∧ es.toList = xs.map (entryOfKey (tupleKind (za3 P w))) ∧ (xs.map (·.1)).Nodup
 | .set S n=>h.SetOf (intKind P w) a S n
 | .ins C dx fs => H dx = some (.own a) ∧ fs.length ≤ 1000 ∧ dx ≠ a ∧ h.get? a = some (PySem.W.instObj C dx) ∧
   ∃ mA,h.Ns1 dx mA ∧ (∀ f,RelO (fs.lookup f) (mA f)) ∧ PySem.Within mA (fs.map (·.1))
 | .own _=>∃ o,h.get? a = some o
 | .xd fs=>∃ mA,h.Ns1 a mA ∧ ∀ f,RelO (fs.lookup f) (mA f)
 | .rng lo hi=>∃ t u v,h.get? a = some { cls:=.type "range", data:=.fields #[.int lo t,.int hi u,.int 1 v] }
 | .frz o u=>h.get? a = some o ∧ ObjOk H h a u
 | .tbl ps=>h.get? a = some { cls:=.none,data:=.fields ps }
 | .met f x=>h.get? a = some (PySem.W.methodObj (.ref f) (.ref x))
 | .ext φ=>φ h ∧ (∃ o,h.get? a = some o) ∧ ∀ h1 h2:Heap,φ h1 → (∀ o,h1.get? a = some o → h2.get? a = some o) → φ h2
def HOk (H:Hp) (h:Heap) : Prop:=∀ a o,H a = some o → ObjOk P w H h a o
end
section
variable {P:Program} {w:World} {H H':Hp} {h h':Heap} {a:Addr} {o:HO}
theorem ObjOk.lt (x:ObjOk P w H h a o) : a < h.objs.size:=by
 cases o with
 | lst xs=>obtain ⟨_,_,_,_,e⟩:=x; exact Heap.lt_size e
 | tup xs=>obtain ⟨_,_,_,p⟩:=x; exact p.lt
 | dK kvs=>obtain ⟨_,_,_,_,o,_,_,e,_⟩:=x; exact Heap.lt_size e
 | dT kvs=>obtain ⟨_,_,_,_,o,_,_,e,_⟩:=x; exact Heap.lt_size e
 | set S n=>obtain ⟨o,_,_,_,e,_⟩:=x; exact Heap.lt_size e
 | ins C dx fs=>obtain ⟨_,_,_,e,_⟩:=x; exact Heap.lt_size e
 | own y=>obtain ⟨_,e⟩:=x; exact Heap.lt_size e
 | xd fs=>obtain ⟨_,⟨_,_,_,e,_⟩,_⟩:=x; exact Heap.lt_size e
 | rng lo hi=>obtain ⟨_,_,_,e⟩:=x; exact Heap.lt_size e
 | frz ob u=>obtain ⟨e,_⟩:=x; exact Heap.lt_size e
 | tbl ps=>exact Heap.lt_size (show h.get? a = some _ from x)
 | met f y=>exact Heap.lt_size (show h.get? a = some _ from x)
 | ext φ=>obtain ⟨_,⟨_,e⟩,_⟩:=x; exact Heap.lt_size e
theorem Paired.mapP {α β:Type} {F G:α → β → Prop} : ∀ {l₁:List α} {l₂:List β},Paired F l₁ l₂ → (∀ a b,F a b → G a b) → Paired G l₁ l₂
 | _,_,.nil,_=>.nil
 | _,_,.cons r t,f=>.cons (f _ _ r) (Paired.mapP t f)
theorem ObjOk.stay (x:ObjOk P w H h a o) (k:∀ b u,(b = a ∨ H b = some (.own a)) → h.get? b = some u → h'.get? b = some u)
  (ho:∀ b,H b = some (.own a) → H' b = some (.own a)) (ht:∀ b xs,H b = some (.tup xs) → H' b = some (.tup xs)) : ObjOk P w H' h' a o:=by
 induction o with
 | lst xs=>obtain ⟨z,its,n,r,e⟩:=x; exact ⟨z,its,n,r,k _ _ (.inl rfl) e⟩
 | tup xs=>obtain ⟨z,its,r,ob,e,c⟩:=x; exact ⟨z,its,r,ob,k _ _ (.inl rfl) e,c⟩
 | dK kvs=>obtain ⟨z,y,vs,r,ob,es,ep,e,c⟩:=x; exact ⟨z,y,vs,r,ob,es,ep,k _ _ (.inl rfl) e,c⟩
 | dT kvs =>
  obtain ⟨z,y,xs,r,ob,es,ep,e,c⟩:=x
  exact ⟨z,y,xs,Paired.mapP r fun p q z=>⟨z.1,ht _ _ z.2.1,z.2.2⟩,ob,es,ep,k _ _ (.inl rfl) e,c⟩
 | set S n=>obtain ⟨ob,es,ep,t,e,c⟩:=x; exact ⟨ob,es,ep,t,k _ _ (.inl rfl) e,c⟩
 | ins C dx fs =>
  obtain ⟨d,z,ne,e,mA,⟨od,es,ep,e2,c⟩,r⟩:=x
  exact ⟨ho _ d,z,ne,k _ _ (.inl rfl) e,mA,⟨od,es,ep,k _ _ (.inr d) e2,c⟩,r⟩
 | own y=>obtain ⟨ob,e⟩:=x; exact ⟨ob,k _ _ (.inl rfl) e⟩
 | xd fs=>obtain ⟨mA,⟨od,es,ep,e,c⟩,r⟩:=x; exact ⟨mA,⟨od,es,ep,k _ _ (.inl rfl) e,c⟩,r⟩
 | rng lo hi=>obtain ⟨t,u,v,e⟩:=x; exact ⟨t,u,v,k _ _ (.inl rfl) e⟩
 | frz ob u ih=>obtain ⟨e,q⟩:=x; exact ⟨k _ _ (.inl rfl) e,ih q⟩
 | tbl ps =>
  have e:h.get? a = some { cls:=.none,data:=.fields ps }:=x
  show h'.get? a = some { cls:=.none,data:=.fields ps }
  exact k a _ (.inl rfl) e
 | met f y =>
  have e:h.get? a = some (PySem.W.methodObj (.ref f) (.ref y)):=x
  show h'.get? a = some (PySem.W.methodObj (.ref f) (.ref y))
  exact k a _ (.inl rfl) e
 | ext φ=>obtain ⟨p,⟨o,e⟩,st⟩:=x; exact ⟨st _ _ p fun o q=>k _ _ (.inl rfl) q,⟨o,k _ _ (.inl rfl) e⟩,st⟩
theorem HOk.lt (x:HOk P w H h) (e:H a = some o) : a < h.objs.size:=(x a o e).lt
theorem HOk.fresh (x:HOk P w H h) (e:h.objs.size ≤ a) : H a = none:=by
 cases q:H a with
 | none=>rfl
 | some u=>exact absurd (Nat.lt_of_lt_of_le (x.lt q) e) (Nat.lt_irrefl _)
theorem HOk.kept (x:HOk P w H h) (k:∀ b u,h.get? b = some u → h'.get? b = some u) : HOk P w H h':=fun a o e =>
 (x a o e).stay (fun b u _ q=>k b u q) (fun _ q=>q) fun _ _ q=>q
theorem HOk.laid (x:HOk P w H h) (k:∀ b u,h.get? b = some u → h'.get? b = some u) (hp:h.objs.size ≤ a) (new:ObjOk P w (upd H a o) h' a o) : HOk P w (upd H a o) h':=fun b u e=>by
 have hn:=x.fresh hp
 by_cases hb:b = a
 ·subst hb; rw [zaa] at e; cases e; exact new
 ·rw [zai hb] at e
  exact (x b u e).stay (fun c v _ q=>k c v q) (fun c q=>by rw [zai (zaq q hn)]; exact q) fun c xs q=>by rw [zai (zaq q hn)]; exact q
end
def Rd (H:Hp) (a:Addr) (u:HO) : Prop:=H a = some u ∨ ∃ o,H a = some (.frz o u)
theorem Rd.ok {P:Program} {w:World} {H:Hp} {h:Heap} {a:Addr} {u:HO} (r:Rd H a u) (x:HOk P w H h) : ObjOk P w H h a u:=by
 rcases r with r | ⟨o,r⟩
 ·exact x a u r
 ·obtain ⟨_,q⟩:=x a _ r
  exact q
def Mut:Option HO → Prop
 | some (.lst _)=>True
 | some (.dK _)=>True
 | some (.dT _)=>True
 | some (.set _ _)=>True
 | some (.ins _ _ _)=>True
 | some (.ext _)=>True
 | _=>False
section
variable {P:Program} {w:World} {H:Hp} {h h':Heap} {x e:Addr} {o':HO}
theorem HOk.write (ok:HOk P w H h) (mu:Mut (H x)) (he:e = x ∨ H e = some (.own x)) (k:∀ b u,b ≠ e → h.get? b = some u → h'.get? b = some u) (heo:∃ u,h'.get? e = some u)
  (new:ObjOk P w (upd H x o') h' x o') : HOk P w (upd H x o') h':=fun b u q=>by
 have nown:∀ c y,H c = some (.own y) → c ≠ x:=fun c y r z=>by subst z; rw [r] at mu; exact mu
 have ntup:∀ c xs,H c = some (.tup xs) → c ≠ x:=fun c xs r z=>by subst z; rw [r] at mu; exact mu
 by_cases hb:b = x
 ·subst hb; rw [zaa] at q; cases q; exact new
 ·rw [zai hb] at q
  by_cases hbe:b = e
  ·have q':H b = some (.own x):=by
    rcases he with z | z
    ·exact absurd (hbe.trans z) hb
    ·rw [hbe]; exact z
   rw [q] at q'; cases q'
   obtain ⟨v,hv⟩:=heo
   exact ⟨v,by rw [hbe]; exact hv⟩
  ·refine (ok b u q).stay (fun c v hc r=>k c v ?_ r) (fun c r=>by rw [zai (nown c b r)]; exact r) fun c xs r=>by rw [zai (ntup c xs r)]; exact r
   rcases hc with rfl | hc
   ·exact hbe
   ·rintro rfl
    rcases he with z | z
    ·exact nown c b hc z
    ·rw [hc] at z; cases z; exact hb rfl
end
structure Un (fs ex:List Addr) (H H':Hp) (h h':Heap) : Prop where
 keep:∀ b o,h.get? b = some o → H b = none → b ∉ fs → b ∉ ex → h'.get? b = some o
 slot:∀ b o,h.get? b = some o → H b = none → b ∈ fs → b ∉ ex → ∃ sl,h'.get? b = some { o with slots:=sl }
 free:∀ b o,h.get? b = some o → H b = none → b ∉ ex → H' b = none
 there:∀ b o,h.get? b = some o → b ∉ ex → ∃ o',h'.get? b = some o'
 tups:∀ b xs,H b = some (.tup xs) → H' b = some (.tup xs)
 frzs:∀ b o u,H b = some (.frz o u) → H' b = some (.frz o u)
 tbls:∀ b ps,H b = some (.tbl ps) → ∃ more,H' b = some (.tbl (ps ++ more))
section
variable {fs fs' ex ex':List Addr} {H H1 H2:Hp} {h h1 h2 h':Heap} {a x e:Addr} {o:HO}
theorem Un.any (u:Un fs ex H H1 h h1) {b:Addr} {ob:Obj} (q:h.get? b = some ob) (n:H b = none) (hx:b ∉ ex) : ∃ sl,h1.get? b = some { ob with slots:=sl }:=by
 by_cases hb:b ∈ fs
 ·exact u.slot b ob q n hb hx
 ·exact ⟨ob.slots,u.keep b ob q n hb hx⟩
theorem Un.kept (k:∀ b u,h.get? b = some u → h'.get? b = some u) : Un fs ex H H h h' :=
 ⟨fun b ob q _ _ _=>k b ob q,fun b ob q _ _ _=>⟨ob.slots,k b ob q⟩,fun _ _ _ n _=>n,fun b ob q _=>⟨ob,k b ob q⟩,fun _ _ q=>q,fun _ _ _ q=>q,fun _ ps q=>⟨#[],by rw [q]; simp⟩⟩
theorem Un.refl:Un fs ex H H h h:=Un.kept fun _ _ q=>q
theorem Un.laid (k:∀ b u,h.get? b = some u → h'.get? b = some u) (hp:h.objs.size ≤ a) (hn:H a = none) : Un fs ex H (upd H a o) h h' where
 keep:=fun b u q _ _ _=>k b u q
 slot:=fun b u q _ _ _=>⟨u.slots,k b u q⟩
 free:=fun b u q n _=>by rw [zai (Nat.ne_of_lt (Nat.lt_of_lt_of_le (Heap.lt_size q) hp))]; exact n
 there:=fun b u q _=>⟨u,k b u q⟩
 tups:=fun b xs q=>by rw [zai (zaq q hn)]; exact q
 frzs:=fun b u xs q=>by rw [zai (zaq q hn)]; exact q
 tbls:=fun b ps q=>⟨#[],by rw [zai (zaq q hn),q]; simp⟩
theorem Un.write (mu:Mut (H x)) (he:e = x ∨ H e = some (.own x)) (k:∀ b u,b ≠ e → h.get? b = some u → h'.get? b = some u) (heo:∃ u,h'.get? e = some u) : Un fs ex H (upd H x o) h h':=by
 have hx:∀ b,H b = none → b ≠ x:=fun b n z=>by subst z; rw [n] at mu; exact mu
 have hb:∀ b,H b = none → b ≠ e:=fun b n z=>by
  subst z
  rcases he with r | r
  ·exact hx b n r
  ·rw [n] at r; cases r
 have hm:∀ b u,H b = some u → ¬ Mut (some u) → b ≠ x:=fun b u q nm z=>by subst z; rw [q] at mu; exact nm mu
 refine ⟨fun b u q n _ _=>k b u (hb b n) q,fun b u q n _ _=>⟨u.slots,k b u (hb b n) q⟩,fun b u q n _=>by rw [zai (hx b n)]; exact n,fun b u q _=>?_,
  fun b xs q=>by rw [zai (hm b _ q fun z=>z)]; exact q,fun b u xs q=>by rw [zai (hm b _ q fun z=>z)]; exact q,fun b ps q=>⟨#[],by rw [zai (hm b _ q fun z=>z),q]; simp⟩⟩
 by_cases hbe:b = e
 ·subst hbe; exact heo
 ·exact ⟨u,k b u hbe q⟩
end
def trk (h:Heap) (H:Hp) : List Addr:=(List.range h.objs.size).filter fun a=>(H a).isSome
def hidT (h:Heap) (H:Hp) : Heap:=PySem.W.hideAll h (trk h H)
theorem zjF (h:Heap) (H:Hp) : (hidT h H).objs.size = h.objs.size:=PySem.W.hideAll_size _ _
theorem zkR {h:Heap} {H:Hp} {b:Addr} {o:Obj} (e:h.get? b = some o) (n:H b = none) : (hidT h H).get? b = some o :=
 PySem.W.hideAll_get _ e fun hm=>by
  have q:(H b).isSome = true:=(List.mem_filter.mp hm).2
  rw [n] at q; simp at q
theorem zmQ {h:Heap} {H:Hp} {b:Addr} {o:Obj} (e:(hidT h H).get? b = some o) : h.get? b = some o ∧ H b = none:=by
 have e':h.get? b = some o:=PySem.W.of_hideAll (trk h H) e
 refine ⟨e',?_⟩
 cases q:H b with
 | none=>rfl
 | some x =>
  have hm:b ∈ trk h H:=List.mem_filter.mpr ⟨List.mem_range.mpr (Heap.lt_size e'),by simp [q]⟩
  have z:(hidT h H).get? b = none:=PySem.W.hideAll_none (trk h H) hm
  rw [z] at e; cases e
def zmL (g h:Heap) (L:Addr) : List (Addr × Obj):=(List.range h.objs.size).filterMap fun a=>if a = L ∨ (g.get? a).isSome = true then none else (h.get? a).map fun o=>(a,o)
def rest (g h:Heap) (L d:Addr) : List (Addr × Obj):=(zmL g h L).filter fun p=>decide (p.1 ≠ d)
end L2
namespace L2
open PySem PySem.Spec PyProof.Rows
structure Mod (K:PySem.W.Frag) (mg:Str → Option Value) (base:Heap) : Prop where
 kin:K.In base
 glob:base.Ns mainGlobals mg
 blt:∃ mb,base.Ns builtinsNs mb ∧ ∀ x:Str,x ≠ "__name__" → mb x = bootBuiltins x
 nolimit:base.NoLimit
structure Cx where
 prog:Program
 w:World
 K:PySem.W.Frag
 mg:Str → Option Value
 base:Heap
 A:Around
 N:List Str
 s₀:Shared
 H₀:Hp
 env:Env
 outer:List Env
 stack:List Env
 ex:List Addr
 fn:Str → Bool
 calm:Bool
 pn:List (Addr × Obj)
 xe:Value → Shared → Prop
def frs (l:List Env) : List Addr:=l.filterMap (·.frame)
abbrev Cx.fs (X:Cx) : List Addr:=frs X.outer
def Vis (sc:Scope) (x:Str) : Prop:=sc.names.lookup x = some .local ∨ sc.names.lookup x = some .cell ∨ sc.names.lookup x = some .free
def Loc (sc:Scope) (x:Str) : Prop:=sc.names.lookup x = some .local ∨ sc.names.lookup x = some .cell
def Look (env:Env) (h:Heap) (m:Str → Option Value) (x:Str) (u:Value) : Prop :=
 (env.kindOf x = some .local ∧ m x = some u) ∨ ((env.kindOf x = some .cell ∨ env.kindOf x = some .free) ∧ ∃ c,env.cells.lookup x = some c ∧ h.IsCell c (some u))
structure Cx.Ok (X:Cx) : Prop where
 mod:Mod X.K X.mg X.base
 kind:X.env.scope.kind = .function
 glob:X.env.globals = mainGlobals
 blt:X.env.builtins = builtinsNs
 above:X.s₀.heap.objs.size ≤ X.env.locals
 inj:∀ x y c,X.env.cells.lookup x = some c → X.env.cells.lookup y = some c → x = y
 has:∀ x,(X.env.kindOf x = some .cell ∨ X.env.kindOf x = some .free) → ∃ c,X.env.cells.lookup x = some c
 cab:∀ x c,X.fn x = true → X.env.cells.lookup x = some c → X.s₀.heap.objs.size ≤ c
 hd:X.calm = true → X.A.handled = none
 frames:X.A.frames = some X.stack
 stk:X.stack = X.outer ∨ (X.stack = X.env :: X.outer ∧ X.env.frame = some X.env.locals)
 exf:∀ b ∈ X.ex,b ≠ X.env.locals ∧ ∀ x c,X.env.cells.lookup x = some c → c ≠ b
 bs:∀ b o,X.base.get? b = some o → X.s₀.heap.get? b = some o ∧ X.H₀ b = none
 bsz:X.base.objs.size ≤ X.s₀.heap.objs.size
 noex:∀ b o,X.base.get? b = some o → b ∉ X.ex
 exfs:∀ b ∈ X.ex,b ∉ X.fs
 funs:X.s₀.heap.FunFrames X.base X.outer
 frf:∀ b ∈ X.fs,X.H₀ b = none
structure Inv (X:Cx) (pins:List (Addr × Obj)) (σ:List (Option V)) (H:Hp) (s:Shared) : Prop where
 ok:X.Ok
 os:s.os = X.s₀.os
 bare:AllBare s.gens
 base:Un X.fs X.ex X.H₀ H X.s₀.heap s.heap
 loc:∃ m,s.heap.Ns X.env.locals m ∧ ∀ (i:Nat) (x:Str) (v:V),X.N[i]? = some x → σ[i]? = some (some v) → Vis X.env.scope x → ∃ u,RelV v u ∧ Look X.env s.heap m x u
 cell:∀ x c,X.env.cells.lookup x = some c → ∃ v,s.heap.IsCell c v
 free:H X.env.locals = none
 freeC:∀ x c,X.env.cells.lookup x = some c → H c = none
 pin:∀ p ∈ X.pn ++ pins,s.heap.get? p.1 = some p.2 ∧ H p.1 = none ∧ p.1 ≠ X.env.locals ∧ p.1 ∉ X.fs ∧ ∀ v,p.2.data ≠ .cell v
 hok:HOk X.prog X.w H s.heap
 len:σ.length = X.N.length
section
variable {X:Cx} {pins:List (Addr × Obj)} {σ:List (Option V)} {H H':Hp} {s:Shared} {h':Heap}
theorem Cx.Ok.nofr (ok:X.Ok) {b:Addr} {o:Obj} (e:X.base.get? b = some o) : b ∉ X.fs:=fun hb=>by
 have:=(ok.funs.mem hb).1
 rw [e] at this; cases this
theorem Inv.bs (I:Inv X pins σ H s) : ∀ b o,X.base.get? b = some o → s.heap.get? b = some o ∧ H b = none:=fun b o e =>
 ⟨I.base.keep b o (I.ok.bs b o e).1 (I.ok.bs b o e).2 (I.ok.nofr e) (I.ok.noex b o e),I.base.free b o (I.ok.bs b o e).1 (I.ok.bs b o e).2 (I.ok.noex b o e)⟩
theorem Inv.bk (I:Inv X pins σ H s) : ∀ b o,X.base.get? b = some o → s.heap.get? b = some o:=fun b o e=>(I.bs b o e).1
theorem Inv.mod (I:Inv X pins σ H s) : Mod X.K X.mg X.base:=I.ok.mod
theorem Inv.kIn (I:Inv X pins σ H s) : X.K.In s.heap:=I.ok.mod.kin.keeps I.bk
theorem Inv.nolimit (I:Inv X pins σ H s) : s.heap.NoLimit:=I.ok.mod.nolimit.keeps I.bk
theorem Inv.lt (I:Inv X pins σ H s) : X.env.locals < s.heap.objs.size:=let ⟨_,hn,_⟩:=I.loc; hn.lt
theorem Inv.sz (I:Inv X pins σ H s) : X.s₀.heap.objs.size ≤ s.heap.objs.size:=Nat.le_trans I.ok.above (Nat.le_of_lt I.lt)
theorem Inv.nofs (I:Inv X pins σ H s) {a:Addr} (h:s.heap.objs.size ≤ a) : a ∉ X.fs:=fun hb=>by
 obtain ⟨_,o,ho,_⟩:=I.ok.funs.mem hb
 exact absurd (Nat.lt_of_lt_of_le (Heap.lt_size ho) (Nat.le_trans I.sz h)) (Nat.lt_irrefl _)
theorem Inv.cne (I:Inv X pins σ H s) : ∀ x c,X.env.cells.lookup x = some c → c ≠ X.env.locals:=fun x c e z=>by
 obtain ⟨v,o,ho,hd⟩:=I.cell x c e
 obtain ⟨m,⟨o',es,ep,ho',hd',_⟩,_⟩:=I.loc
 rw [z,ho'] at ho; cases ho; rw [hd'] at hd; cases hd
theorem Inv.funs (I:Inv X pins σ H s) : s.heap.FunFrames X.base X.outer:=by
 have all:∀ (l:List Env),(∀ b ∈ frs l,b ∈ X.fs) → X.s₀.heap.FunFrames X.base l → s.heap.FunFrames X.base l:=by
  intro l
  induction l with
  | nil=>intro _ _; trivial
  | cons env r ih =>
   intro hs hl
   obtain ⟨hk,⟨L,o,hf,hn,ho,hd⟩,hr⟩:=hl
   have hL:L ∈ X.fs:=hs L (by unfold frs; rw [List.filterMap_cons,hf]; exact List.mem_cons_self)
   obtain ⟨sl,e⟩:=I.base.slot L o ho (I.ok.frf L hL) hL fun z=>I.ok.exfs L z hL
   exact ⟨hk,⟨L,_,hf,hn,e,hd⟩,ih (fun b hb=>hs b (by unfold frs; rw [List.filterMap_cons,hf]; exact List.mem_cons_of_mem _ hb)) hr⟩
 exact all X.outer (fun _ hb=>hb) I.ok.funs
theorem Inv.stack (I:Inv X pins σ H s) : s.heap.FunFrames X.base X.stack:=by
 rcases I.ok.stk with e | ⟨e,hf⟩
 ·rw [e]; exact I.funs
 ·rw [e]
  obtain ⟨m,hn,_⟩:=I.loc
  refine .cons (by rw [I.ok.kind]; decide) hf hn ?_ I.funs
  exact Heap.get?_none_of_le (Nat.le_trans I.ok.bsz I.ok.above)
theorem Inv.stkSub (I:Inv X pins σ H s) : ∀ b ∈ frs X.stack,b ∈ X.env.locals :: X.fs:=fun b hb=>by
 rcases I.ok.stk with e | ⟨e,hf⟩
 ·rw [e] at hb; exact List.mem_cons_of_mem _ hb
 ·rw [e] at hb
  unfold frs at hb
  rw [List.filterMap_cons,hf] at hb
  exact hb
theorem Inv.stkFree (I:Inv X pins σ H s) : ∀ b ∈ frs X.stack,H b = none:=fun b hb=>by
 rcases List.mem_cons.mp (I.stkSub b hb) with e | hb
 ·rw [e]; exact I.free
 ·obtain ⟨_,o,ho,_⟩:=I.ok.funs.mem hb
  exact I.base.free b o ho (I.ok.frf b hb) fun z=>I.ok.exfs b z hb
theorem Inv.step {g':Array GenState} {t':Nat} {d':Drawn} {ch:List Addr} (I:Inv X pins σ H s)
  (hch:∀ b ∈ ch,(b ∈ X.ex ∨ X.s₀.heap.objs.size ≤ b) ∧ b ≠ X.env.locals ∧ (∀ x c,X.env.cells.lookup x = some c → c ≠ b) ∧ ∀ p ∈ X.pn ++ pins,p.1 ≠ b)
  (keep:∀ b o,b ≠ X.env.locals → b ∉ X.fs → b ∉ ch → s.heap.get? b = some o → H b = none → h'.get? b = some o)
  (slot:∀ b o,b ≠ X.env.locals → b ∈ X.fs → b ∉ ch → s.heap.get? b = some o → H b = none → ∃ sl,h'.get? b = some { o with slots:=sl }) (free:∀ b o,b ∉ ch → s.heap.get? b = some o → H b = none → H' b = none)
  (there:∀ b o,b ∉ ch → s.heap.get? b = some o → ∃ o',h'.get? b = some o')
  (tups:∀ b xs,H b = some (.tup xs) → H' b = some (.tup xs)) (frzs:∀ b o u,H b = some (.frz o u) → H' b = some (.frz o u)) (tbls:∀ b ps,H b = some (.tbl ps) → ∃ more,H' b = some (.tbl (ps ++ more)))
  (ns:∀ m,s.heap.Ns X.env.locals m → h'.Ns X.env.locals m) (hok:HOk X.prog X.w H' h') (hg:AllBare g') :
  Inv X pins σ H' { s with heap:=h',gens:=g',drawn:=d',toks:=t' }:=by
 have neL:∀ b o,X.s₀.heap.get? b = some o → b ≠ X.env.locals:=fun b o e=>Nat.ne_of_lt (Nat.lt_of_lt_of_le (Heap.lt_size e) I.ok.above)
 have neC:∀ b o,X.s₀.heap.get? b = some o → b ∉ X.ex → b ∉ ch:=fun b o e hx hb=>by
  rcases (hch b hb).1 with z | z
  ·exact hx z
  ·exact absurd (Nat.lt_of_lt_of_le (Heap.lt_size e) z) (Nat.lt_irrefl _)
 have cellK:∀ x c,X.env.cells.lookup x = some c → ∀ v,s.heap.IsCell c v → h'.IsCell c v:=fun x c e v ⟨o,ho,hd⟩=>by
  have nch:c ∉ ch:=fun z=>(hch c z).2.2.1 x c e rfl
  by_cases hc:c ∈ X.fs
  ·obtain ⟨sl,q⟩:=slot c o (I.cne x c e) hc nch ho (I.freeC x c e)
   exact ⟨_,q,hd⟩
  ·exact ⟨o,keep c o (I.cne x c e) hc nch ho (I.freeC x c e),hd⟩
 refine ⟨I.ok,I.os,hg,⟨fun b o e n hb hx=>?_,fun b o e n hb hx=>?_,fun b o e n hx=>?_,fun b o e hx=>?_,fun b xs e=>tups b xs (I.base.tups b xs e),fun b o xs e=>frzs b o xs (I.base.frzs b o xs e),fun b ps e=>?_⟩,?_,fun x c e=>?_,?_,fun x c e=>?_,fun p hp=>?_,hok,I.len⟩
 ·exact keep b o (neL b o e) hb (neC b o e hx) (I.base.keep b o e n hb hx) (I.base.free b o e n hx)
 ·obtain ⟨sl,e1⟩:=I.base.slot b o e n hb hx
  obtain ⟨sl',e2⟩:=slot b _ (neL b o e) hb (neC b o e hx) e1 (I.base.free b o e n hx)
  exact ⟨sl',e2⟩
 ·obtain ⟨o',e1⟩:=I.base.there b o e hx
  exact free b o' (neC b o e hx) e1 (I.base.free b o e n hx)
 ·obtain ⟨o',e1⟩:=I.base.there b o e hx
  exact there b o' (neC b o e hx) e1
 ·obtain ⟨m1,e1⟩:=I.base.tbls b ps e
  obtain ⟨m2,e2⟩:=tbls b _ e1
  exact ⟨m1 ++ m2,by rw [e2,Array.append_assoc]⟩
 ·obtain ⟨m,hn,hl⟩:=I.loc
  refine ⟨m,ns m hn,fun i x v e1 e2 e3=>?_⟩
  obtain ⟨u,r,l⟩:=hl i x v e1 e2 e3
  refine ⟨u,r,?_⟩
  rcases l with l | ⟨k,c,e,z⟩
  ·exact .inl l
  ·exact .inr ⟨k,c,e,cellK x c e _ z⟩
 ·obtain ⟨v,z⟩:=I.cell x c e
  exact ⟨v,cellK x c e v z⟩
 ·obtain ⟨m,⟨o,_,_,ho,_⟩,_⟩:=I.loc
  exact free _ o (fun z=>(hch _ z).2.1 rfl) ho I.free
 ·obtain ⟨v,o,ho,hd⟩:=I.cell x c e
  exact free c o (fun z=>(hch c z).2.2.1 x c e rfl) ho (I.freeC x c e)
 ·obtain ⟨e,n,ne,nf,d⟩:=I.pin p hp
  have nch:p.1 ∉ ch:=fun z=>(hch p.1 z).2.2.2 p hp rfl
  exact ⟨keep p.1 p.2 ne nf nch e n,free p.1 p.2 nch e n,ne,nf,d⟩
theorem Inv.un {t':Nat} (I:Inv X pins σ H s) (u:Un X.fs [] H H' s.heap h') (hok:HOk X.prog X.w H' h') : Inv X pins σ H' { s with heap:=h',toks:=t' }:=by
 obtain ⟨m,⟨o,es,ep,ho,r⟩,_⟩:=id I.loc
 obtain ⟨sl,hL⟩:=u.any ho I.free (by simp)
 exact I.step (g':=s.gens) (d':=s.drawn) (ch:=[]) (fun _ z=>nomatch z) (fun b o _ hb _ e n=>u.keep b o e n hb (by simp)) (fun b o _ hb _ e n=>u.slot b o e n hb (by simp)) (fun b o _ e n=>u.free b o e n (by simp)) (fun b o _ e=>u.there b o e (by simp)) u.tups u.frzs u.tbls (fun m' hm=>by
  obtain ⟨o',es',ep',ho',r'⟩:=hm
  rw [ho] at ho'; cases ho'
  exact ⟨_,es',ep',hL,r'⟩) hok I.bare
theorem Inv.call {g':Array GenState} {t':Nat} {d':Drawn} {ch:List Addr} (I:Inv X pins σ H s) (u:Un (frs X.stack) ch H H' s.heap h') (hok:HOk X.prog X.w H' h') (hg:AllBare g')
  (hch:∀ b ∈ ch,(b ∈ X.ex ∨ X.s₀.heap.objs.size ≤ b) ∧ b ≠ X.env.locals ∧ (∀ x c,X.env.cells.lookup x = some c → c ≠ b) ∧ ∀ p ∈ X.pn ++ pins,p.1 ≠ b) :
  Inv X pins σ H' { s with heap:=h',gens:=g',drawn:=d',toks:=t' }:=by
 obtain ⟨m,⟨o,es,ep,ho,r⟩,_⟩:=id I.loc
 obtain ⟨sl,hL⟩:=u.any ho I.free fun z=>(hch _ z).2.1 rfl
 exact I.step (ch:=ch) hch (fun b o hL hb hc e n=>u.keep b o e n (fun z=>(List.mem_cons.mp (I.stkSub b z)).elim hL hb) hc) (fun b o _ _ hc e n=>u.any e n hc) (fun b o hc e n=>u.free b o e n hc) (fun b o hc e=>u.there b o e hc) u.tups u.frzs u.tbls (fun m' hm=>by
  obtain ⟨o',es',ep',ho',r'⟩:=hm
  rw [ho] at ho'; cases ho'
  exact ⟨_,es',ep',hL,r'⟩) hok hg
theorem Inv.turned {t':Nat} {it:Addr} (I:Inv X pins σ H s) (k:∀ b o,b ≠ it → s.heap.get? b = some o → h'.get? b = some o) (hn:H it = none) (hL:it ≠ X.env.locals)
  (h1:it ∈ X.ex ∨ X.s₀.heap.objs.size ≤ it) (h2:∀ x c,X.env.cells.lookup x = some c → c ≠ it) (h3:∀ p ∈ X.pn ++ pins,p.1 ≠ it) : Inv X pins σ H { s with heap:=h',toks:=t' }:=by
 have nit:∀ b u,H b = some u → b ≠ it:=fun b u e z=>by rw [z,hn] at e; cases e
 refine I.step (g':=s.gens) (d':=s.drawn) (ch:=[it]) (fun b hb=>?_) (fun b o _ _ hc e _=>k b o (fun z=>hc (by simp [z])) e) (fun b o _ _ hc e _=>⟨o.slots,k b o (fun z=>hc (by simp [z])) e⟩) (fun _ _ _ _ n=>n)
  (fun b o hc e=>⟨o,k b o (fun z=>hc (by simp [z])) e⟩) (fun _ _ e=>e) (fun _ _ _ e=>e) (fun b ps e=>⟨#[],by rw [e]; simp⟩) (fun m hm=>?_) (fun b u e=>?_) I.bare
 ·have e:b = it:=by simpa using hb
  subst e
  exact ⟨h1,hL,h2,h3⟩
 ·obtain ⟨o,es,ep,ho,r⟩:=hm
  exact ⟨o,es,ep,k _ o (Ne.symm hL) ho,r⟩
 ·refine (I.hok b u e).stay (fun c v hc q=>k c v ?_ q) (fun _ q=>q) fun _ _ q=>q
  rcases hc with z | z
  ·rw [z]; exact nit b u e
  ·exact nit c _ z
theorem Inv.tok (I:Inv X pins σ H s) (t:Nat) : Inv X pins σ H { s with toks:=t }:=I.un (h':=s.heap) (t':=t) Un.refl I.hok
theorem Inv.kept {t':Nat} (I:Inv X pins σ H s) (k:∀ b u,s.heap.get? b = some u → h'.get? b = some u) : Inv X pins σ H { s with heap:=h',toks:=t' }:=I.un (Un.kept k) (I.hok.kept k)
theorem Inv.laid {a:Addr} {o:HO} {t':Nat} (I:Inv X pins σ H s) (k:∀ b u,s.heap.get? b = some u → h'.get? b = some u) (hp:s.heap.objs.size ≤ a) (new:ObjOk X.prog X.w (upd H a o) h' a o) :
  Inv X pins σ (upd H a o) { s with heap:=h',toks:=t' }:=I.un (Un.laid k hp (I.hok.fresh hp)) (I.hok.laid k hp new)
theorem Inv.write {x e:Addr} {o:HO} {t':Nat} (I:Inv X pins σ H s) (mu:Mut (H x)) (he:e = x ∨ H e = some (.own x)) (k:∀ b u,b ≠ e → s.heap.get? b = some u → h'.get? b = some u) (heo:∃ u,h'.get? e = some u)
  (new:ObjOk X.prog X.w (upd H x o) h' x o) : Inv X pins σ (upd H x o) { s with heap:=h',toks:=t' }:=I.un (Un.write mu he k heo) (I.hok.write mu he k heo new)
theorem Inv.pins_of {pins':List (Addr × Obj)} (I:Inv X pins σ H s) (h:∀ p ∈ pins',s.heap.get? p.1 = some p.2 ∧ H p.1 = none ∧ p.1 ≠ X.env.locals ∧ p.1 ∉ X.fs ∧ ∀ v,p.2.data ≠ .cell v) : Inv X pins' σ H s :=
 ⟨I.ok,I.os,I.bare,I.base,I.loc,I.cell,I.free,I.freeC,fun p hp=>(List.mem_append.mp hp).elim (fun z=>I.pin p (List.mem_append_left _ z)) (h p),I.hok,I.len⟩
theorem zhk {N:List Str} (hN:N.Nodup) {i j:Nat} {x:Str} (a:N[i]? = some x) (b:N[j]? = some x) : i = j:=by
 obtain ⟨h1,e1⟩:=List.getElem?_eq_some_iff.mp a
 obtain ⟨h2,e2⟩:=List.getElem?_eq_some_iff.mp b
 exact (List.getElem_inj hN).mp (e1.trans e2.symm)
theorem zit {M:Model} {A:Around} {E:Value → Shared → Prop} {i:Nat} {x:Str} {v:V} {u:Value} {Q:Unit → Shared → Prop} (I:Inv X pins σ H s) (hN:X.N.Nodup) (hi:X.N[i]? = some x) (hx:Loc X.env.scope x) (r:RelV v u)
  (h:∀ s',Inv X pins (σ.set i (some v)) H s' → (∃ a,Heap.SameBut a s.heap s'.heap ∧ (a = X.env.locals ∨ X.env.cells.lookup x = some a)) → Q () s') (hf:X.fn x = true ∨ X.env.scope.names.lookup x = some .local:=by first | exact .inl rfl | exact .inr rfl | assumption) : wpAny M A (storeName X.env x u) Q E s:=by
 obtain ⟨m,hn,hl⟩:=id I.loc
 have hcls:(X.env.scope.kind == .class || (X.env.scope.kind == .module && X.env.locals != X.env.globals)) = false:=by rw [I.ok.kind]; rfl
 have hiσ:i < σ.length:=by rw [I.len]; exact (List.getElem?_eq_some_iff.mp hi).1
 have cne:=I.cne
 have tracked:∀ {a:Addr} {h':Heap},(∃ o,s.heap.get? a = some o ∧ H a = none) → Heap.SameBut a s.heap h' → HOk X.prog X.w H h':=fun {a h'} ha hs b ob e=>by
  obtain ⟨_,_,hfree⟩:=ha
  refine (I.hok b ob e).stay (fun c w' hc q=>(hs.2 c ?_).trans q) (fun _ q=>q) fun _ _ q=>q
  rintro rfl
  rcases hc with rfl | hc
  ·rw [hfree] at e; cases e
  ·rw [hfree] at hc; cases hc
 rcases hx with hk | hk
 ·refine wpAny_storeName_local hk hn (fun h' hn' hs=>?_) hcls
  obtain ⟨oL,_,_,hoL,_⟩:=id hn
  refine h _ ⟨I.ok,I.os,I.bare,⟨fun b o e n hb hx=>?_,fun b o e n hb hx=>?_,I.base.free,fun b o e hx=>?_,I.base.tups,I.base.frzs,I.base.tbls⟩,⟨_,hn',fun j y v' e1 e2 e3=>?_⟩,fun y c e=>?_,I.free,I.freeC,fun p hp=>?_,tracked ⟨oL,hoL,I.free⟩ hs,by simpa using I.len⟩ ⟨_,hs,.inl rfl⟩
  ·exact (hs.2 b (Nat.ne_of_lt (Nat.lt_of_lt_of_le (Heap.lt_size e) I.ok.above))).trans (I.base.keep b o e n hb hx)
  ·obtain ⟨sl,e1⟩:=I.base.slot b o e n hb hx
   exact ⟨sl,(hs.2 b (Nat.ne_of_lt (Nat.lt_of_lt_of_le (Heap.lt_size e) I.ok.above))).trans e1⟩
  ·obtain ⟨o',e1⟩:=I.base.there b o e hx
   exact ⟨o',(hs.2 b (Nat.ne_of_lt (Nat.lt_of_lt_of_le (Heap.lt_size e) I.ok.above))).trans e1⟩
  ·by_cases hj:j = i
   ·subst hj
    rw [hi] at e1; cases e1
    rw [List.getElem?_set_self hiσ] at e2
    cases e2
    exact ⟨u,r,.inl ⟨hk,by simp⟩⟩
   ·rw [List.getElem?_set_ne (Ne.symm hj)] at e2
    obtain ⟨u',r',q⟩:=hl j y v' e1 e2 e3
    refine ⟨u',r',?_⟩
    rcases q with ⟨k,e⟩ | ⟨k,c,e,z⟩
    ·refine .inl ⟨k,?_⟩
     have:y ≠ x:=fun e=>hj (zhk hN e1 (e ▸ hi))
     simp [this,e]
    ·exact .inr ⟨k,c,e,z.sameBut hs (cne y c e)⟩
  ·obtain ⟨w',z⟩:=I.cell y c e
   exact ⟨w',z.sameBut hs (cne y c e)⟩
  ·obtain ⟨e,n,ne,nf,d⟩:=I.pin p hp
   exact ⟨(hs.2 p.1 ne).trans e,n,ne,nf,d⟩
 ·have hfn:X.fn x = true:=by
   rcases hf with z | z
   ·exact z
   ·rw [z] at hk; cases hk
  obtain ⟨c,hc⟩:=I.ok.has x (.inl hk)
  obtain ⟨w',z⟩:=I.cell x c hc
  refine wpAny_storeName_cell I.ok.kind hk hc z (fun h' hc' hs=>?_)
  obtain ⟨oc,hoc,hocd⟩:=id z
  refine h { s with heap:=h' } ⟨I.ok,I.os,I.bare,⟨fun b o e n hb hx=>?_,fun b o e n hb hx=>?_,I.base.free,fun b o e hx=>?_,I.base.tups,I.base.frzs,I.base.tbls⟩,⟨m,hn.sameBut hs (Ne.symm (cne x c hc)),fun j y v' e1 e2 e3=>?_⟩,fun y c' e=>?_,I.free,I.freeC,fun p hp=>?_,tracked ⟨oc,hoc,I.freeC x c hc⟩ hs,by simpa using I.len⟩ ⟨c,hs,.inr hc⟩
  ·exact (hs.2 b (Nat.ne_of_lt (Nat.lt_of_lt_of_le (Heap.lt_size e) (I.ok.cab x c hfn hc)))).trans (I.base.keep b o e n hb hx)
  ·obtain ⟨sl,e1⟩:=I.base.slot b o e n hb hx
   exact ⟨sl,(hs.2 b (Nat.ne_of_lt (Nat.lt_of_lt_of_le (Heap.lt_size e) (I.ok.cab x c hfn hc)))).trans e1⟩
  ·obtain ⟨o',e1⟩:=I.base.there b o e hx
   exact ⟨o',(hs.2 b (Nat.ne_of_lt (Nat.lt_of_lt_of_le (Heap.lt_size e) (I.ok.cab x c hfn hc)))).trans e1⟩
  ·by_cases hj:j = i
   ·subst hj
    rw [hi] at e1; cases e1
    rw [List.getElem?_set_self hiσ] at e2
    cases e2
    exact ⟨u,r,.inr ⟨.inl hk,c,hc,hc'⟩⟩
   ·rw [List.getElem?_set_ne (Ne.symm hj)] at e2
    obtain ⟨u',r',q⟩:=hl j y v' e1 e2 e3
    refine ⟨u',r',?_⟩
    rcases q with q | ⟨k,c',e,z'⟩
    ·exact .inl q
    ·refine .inr ⟨k,c',e,z'.sameBut hs ?_⟩
     rintro rfl
     exact hj (zhk hN e1 (I.ok.inj _ _ _ e hc ▸ hi))
  ·by_cases hcc:c' = c
   ·subst hcc; exact ⟨_,hc'⟩
   ·obtain ⟨w2,z2⟩:=I.cell y c' e
    exact ⟨w2,z2.sameBut hs hcc⟩
  ·obtain ⟨e,n,ne,nf,d⟩:=I.pin p hp
   refine ⟨(hs.2 p.1 ?_).trans e,n,ne,nf,d⟩
   intro q
   rw [q,hoc] at e
   have q':oc = p.2:=Option.some.inj e
   exact d w' (by rw [← q']; exact hocd)
theorem zfK {M:Model} {A:Around} {E:Value → Shared → Prop} {i:Nat} {x:Str} {v:V} {u:Value} {Q:Unit → Shared → Prop} (I:Inv X pins σ H s) (hN:X.N.Nodup) (hi:X.N[i]? = some x) (hx:Loc X.env.scope x) (r:RelV v u)
  (h:∀ s',Inv X pins (σ.set i (some v)) H s' → Q () s') (hf:X.fn x = true ∨ X.env.scope.names.lookup x = some .local:=by first | exact .inl rfl | exact .inr rfl | assumption) : wpAny M A (storeName X.env x u) Q E s :=
 zit I hN hi hx r (fun s' I' _=>h s' I') hf
theorem Inv.call' {s':Shared} {ch:List Addr} (I:Inv X pins σ H s) (ho:s'.os = s.os) (u:Un (frs X.stack) ch H H' s.heap s'.heap) (hok:HOk X.prog X.w H' s'.heap) (hg:AllBare s'.gens)
  (hch:∀ b ∈ ch,(b ∈ X.ex ∨ X.s₀.heap.objs.size ≤ b) ∧ b ≠ X.env.locals ∧ (∀ x c,X.env.cells.lookup x = some c → c ≠ b) ∧ ∀ p ∈ X.pn ++ pins,p.1 ≠ b) : Inv X pins σ H' s':=by
 obtain ⟨h',g',d',t',o'⟩:=s'
 have e:o' = s.os:=ho
 subst e
 exact I.call (g':=g') (t':=t') (d':=d') u hok hg hch
end
abbrev XK:=Value → Option Addr → Hp → Prop
abbrev St:=List (Option V)
abbrev VK:=V → Hp → Prop
abbrev TE:=St → Hp → VK → Prop
abbrev TT:=St → Hp → (Bool → Hp → Prop) → Prop
abbrev TA:=St → Hp → (List V → Hp → Prop) → Prop
structure Ends where
 nx:St → Hp → Prop
 rt:VK
 bk:St → Hp → Prop:=fun _ _=>False
 ct:St → Hp → Prop:=fun _ _=>False
abbrev TS:=Ends → St → Hp → Prop
def EP (X:Cx) (pins:List (Addr × Obj)) (σ:St) (Q:VK) (u:Value) (s':Shared) : Prop:=∃ v H',Inv X pins σ H' s' ∧ RelV v u ∧ Q v H'
def TP (X:Cx) (pins:List (Addr × Obj)) (σ:St) (Q:Bool → Hp → Prop) (b:Bool) (s':Shared) : Prop:=∃ H',Inv X pins σ H' s' ∧ Q b H'
def AP (X:Cx) (pins:List (Addr × Obj)) (σ:St) (Q:List V → Hp → Prop) (us:List Value) (s':Shared) : Prop:=∃ vs H',Inv X pins σ H' s' ∧ Vals vs us ∧ Q vs H'
def SP (X:Cx) (pins:List (Addr × Obj)) (D:Ends) (f:Flow) (s':Shared) : Prop :=
 match f with
 | .next=>∃ σ' H',Inv X pins σ' H' s' ∧ D.nx σ' H'
 | .brk=>∃ σ' H',Inv X pins σ' H' s' ∧ D.bk σ' H'
 | .cont=>∃ σ' H',Inv X pins σ' H' s' ∧ D.ct σ' H'
 | .ret u=>∃ v σ' H',Inv X pins σ' H' s' ∧ RelV v u ∧ D.rt v H'
def PE (X:Cx) (e:Expr) (t:TE) : Prop :=
 ∀ (pins:List (Addr × Obj)) (s:Shared) (σ:St) (H:Hp) (Q:VK),Inv X pins σ H s → t σ H Q → wpAny (model X.prog X.w) X.A (eval e X.env) (EP X pins σ Q) X.xe s
def PT (X:Cx) (e:Expr) (t:TT) : Prop :=
 ∀ (pins:List (Addr × Obj)) (s:Shared) (σ:St) (H:Hp) (Q:Bool → Hp → Prop),Inv X pins σ H s → t σ H Q → wpAny (model X.prog X.w) X.A (isTrue e X.env (eval e X.env)) (TP X pins σ Q) X.xe s
def PW (X:Cx) (e:Expr) (t:TT) : Prop :=
 ∀ (whole:Sem Value) (pins:List (Addr × Obj)) (s:Shared) (σ:St) (H:Hp) (Q:Bool → Hp → Prop),Inv X pins σ H s → t σ H Q → wpAny (model X.prog X.w) X.A (isTrue e X.env whole) (TP X pins σ Q) X.xe s
theorem PW.pt {X:Cx} {e:Expr} {t:TT} (h:PW X e t) : PT X e t:=h _
def PA (X:Cx) (es:List Expr) (t:TA) : Prop :=
 ∀ (pos:Pos) (pins:List (Addr × Obj)) (s:Shared) (σ:St) (H:Hp) (Q:List V → Hp → Prop),Inv X pins σ H s → t σ H Q → wpAny (model X.prog X.w) X.A (spliced (backTo pos (starEach es X.env))) (AP X pins σ Q) X.xe s
def PS (X:Cx) (st:Stmt) (t:TS) : Prop :=
 ∀ (pins:List (Addr × Obj)) (s:Shared) (σ:St) (H:Hp) (D:Ends),Inv X pins σ H s → t D σ H → wpAny (model X.prog X.w) X.A (exec st X.env) (SP X pins D) X.xe s
def PSs (X:Cx) (st:List Stmt) (t:TS) : Prop :=
 ∀ (pins:List (Addr × Obj)) (s:Shared) (σ:St) (H:Hp) (D:Ends),Inv X pins σ H s → t D σ H → wpAny (model X.prog X.w) X.A (execs st X.env) (SP X pins D) X.xe s
theorem thn {α:Type} {t:Sem α} {Q Q':α → Shared → Prop} {M:Model} {A:Around} {E:Value → Shared → Prop} {s:Shared} (h:wpAny M A t Q E s) (hQ:∀ a s,Q a s → Q' a s) : wpAny M A t Q' E s:=wpAny_mono h hQ fun _ _ x=>x
end L2
namespace L2
open PySem PySem.Spec PyProof.Rows
section
variable {X:Cx}
theorem bin {a b:Expr} {ta tb:TE} (ha:PE X a ta) (hb:PE X b tb) {pins:List (Addr × Obj)} {s:Shared} {σ:St} {H:Hp} {R:V → V → Hp → Prop} (I:Inv X pins σ H s) (h:ta σ H fun x H1=>tb σ H1 fun y H2=>R x y H2)
  {α:Type} {Q:α → Shared → Prop} {f:Value → Value → Sem α}
  (hf:∀ v u s2 x y H2,Inv X pins σ H2 s2 → RelV x v → RelV y u → R x y H2 → wpAny (model X.prog X.w) X.A (f v u) Q X.xe s2) :
  wpAny (model X.prog X.w) X.A (eval a X.env) (fun v s₁=>wpAny (model X.prog X.w) X.A (eval b X.env) (fun u s₂=>wpAny (model X.prog X.w) X.A (f v u) Q X.xe s₂) X.xe s₁) X.xe s:=by
 refine thn (ha pins s σ H _ I h) fun v s1 ⟨x,H1,I1,r1,q1⟩=>?_
 refine thn (hb pins s1 σ H1 _ I1 q1) fun u s2 ⟨y,H2,I2,r2,q2⟩=>?_
 exact hf v u s2 x y H2 I2 r1 r2 q2
def tVar (i:Nat) : TE:=fun σ H Q=>∃ v,σ[i]? = some (some v) ∧ Q v H
def tC (v:V) : TE:=fun _ H Q=>Q v H
theorem zns {i:Nat} {x:Str} {pos:Pos} (hN:X.N[i]? = some x) (hv:Vis X.env.scope x) (hd:(x == ("__debug__" : Str)) = false:=by decide) (hcd:(x == ("__classdict__" : Str)) = false:=by decide) : PE X (.Name x pos) (tVar i):=by
 intro pins s σ H Q I h
 obtain ⟨v,e,h⟩:=h
 obtain ⟨m,hn,hl⟩:=I.loc
 obtain ⟨u,r,l⟩:=hl i x v hN e hv
 have fin:EP X pins σ Q u s:=⟨v,H,I,r,h⟩
 rcases l with ⟨hk,hm⟩ | ⟨hk,c,hc,hcell⟩
 ·exact wpAny_Name (wpAny_loadName_local I.ok.kind hk hn hm fin) hd
 ·rcases hk with hk | hk
  ·exact wpAny_Name (wpAny_loadName_cell I.ok.kind hk hc hcell fin) hd
  ·exact wpAny_Name (wpAny_loadName_free I.ok.kind hk hc hcell fin hcd) hd
theorem znj {i j pos} : PE X (.Constant (.int i) j pos) (tC (.int i)):=fun _ _ _ H _ I h=>wpAny_Constant_int ⟨.int i,H,I.tok _,⟨_,rfl⟩,h⟩
theorem zoQ {b j pos} : PE X (.Constant (.bool b) j pos) (tC (.bl b)):=fun _ _ _ H _ I h=>Constant_bool ⟨.bl b,H,I,rfl,h⟩
theorem zoc {j pos} : PE X (.Constant .none j pos) (tC .non):=fun _ _ _ H _ I h=>Constant_none ⟨.non,H,I,rfl,h⟩
theorem znP {x j pos} : PE X (.Constant (.str x) j pos) (tC (.str x)):=fun _ _ _ H _ I h=>Calls.Constant_str ⟨.str x,H,I.tok _,⟨_,rfl⟩,h⟩
def Gl (X:Cx) (x:Str) : Prop:=X.env.kindOf x = some .globalImplicit
theorem zgP {E:Value → Shared → Prop} {pins:List (Addr × Obj)} {s:Shared} {σ:St} {H:Hp} {x:Str} {u:Value} {pos:Pos} {Q:Value → Shared → Prop} (I:Inv X pins σ H s) (hg:Gl X x) (hm:X.mg x = some u) (h:Q u s)
  (hd:(x == ("__debug__" : Str)) = false:=by decide) : wpAny (model X.prog X.w) X.A (eval (.Name x pos) X.env) Q E s :=
 Calls.Name_function_global I.ok.kind hg (Calls.loadGlobal_global (by rw [I.ok.glob]; exact I.mod.glob.keeps I.bk) hm h) hd
theorem zed {E:Value → Shared → Prop} {pins:List (Addr × Obj)} {s:Shared} {σ:St} {H:Hp} {x:Str} {u:Value} {pos:Pos} {Q:Value → Shared → Prop} (I:Inv X pins σ H s) (hg:Gl X x) (hm:X.mg x = none) (hv:bootBuiltins x = some u) (h:Q u s)
  (hn:x ≠ "__name__" := by decide) (hd:(x == ("__debug__" : Str)) = false:=by decide) : wpAny (model X.prog X.w) X.A (eval (.Name x pos) X.env) Q E s:=by
 obtain ⟨mb,h1,h2⟩:=I.mod.blt
 exact Calls.Name_function_global I.ok.kind hg (Calls.loadGlobal_builtin (by rw [I.ok.glob]; exact I.mod.glob.keeps I.bk) hm (by rw [I.ok.blt]; exact h1.keeps I.bk) ((h2 x hn).trans hv) h) hd
theorem zlG {x:Str} {v:V} {u:Value} {pos:Pos} (hg:Gl X x) (hm:X.mg x = some u) (r:RelV v u) (hd:(x == ("__debug__" : Str)) = false:=by decide) : PE X (.Name x pos) (tC v) :=
 fun _ _ _ H _ I h=>zgP I hg hm ⟨v,H,I,r,h⟩ hd
theorem zlR {x:Str} {v:V} {u:Value} {pos:Pos} (hg:Gl X x) (hm:X.mg x = none) (hv:bootBuiltins x = some u) (r:RelV v u) (hn:x ≠ "__name__" := by decide) (hd:(x == ("__debug__" : Str)) = false:=by decide) : PE X (.Name x pos) (tC v) :=
 fun _ _ _ H _ I h=>zed I hg hm hv ⟨v,H,I,r,h⟩ hn hd
variable {a b:Expr} {ta tb:TE} {pos:Pos}
def PC (X:Cx) (op:CmpOp) (a b:Expr) (t:TE) : Prop :=
 ∀ (pins:List (Addr × Obj)) (s:Shared) (σ:St) (H:Hp) (Q:VK),Inv X pins σ H s → t σ H Q →
  wpAny (model X.prog X.w) X.A (eval a X.env) (fun v s₁=>wpAny (model X.prog X.w) X.A (eval b X.env) (fun u s₂=>wpAny (model X.prog X.w) X.A (compareOp op v u) (EP X pins σ Q) X.xe s₂) X.xe s₁) X.xe s
theorem zc6 (b:Expr) {op:CmpOp} (h:op ≠ .In) (h2:op ≠ .NotIn) : behindInMarks op b = false:=by
 have e1:(op == CmpOp.In) = false:=by cases op <;> first | rfl | exact absurd rfl h
 have e2:(op == CmpOp.NotIn) = false:=by cases op <;> first | rfl | exact absurd rfl h2
 cases b <;> simp [behindInMarks,e1,e2]
def tIsN (ta:TE) : TE:=fun σ H Q=>ta σ H fun x H1=>Q (.bl (decide (x = .non))) H1
def zmV (ta:TE) : TE:=fun σ H Q=>ta σ H fun x H1=>Q (.bl (!decide (x = .non))) H1
theorem RelV.none_iff {x:V} {v:Value} (r:RelV x v) : (v == Value.none) = decide (x = .non):=by
 cases x with
 | non=>cases r; rfl
 | bl _=>cases r; rfl
 | int _=>obtain ⟨t,rfl⟩:=r; rfl
 | str _=>obtain ⟨t,rfl⟩:=r; rfl
 | byt _=>obtain ⟨t,rfl⟩:=r; rfl
 | flt _=>obtain ⟨t,rfl⟩:=r; rfl
 | ref _=>cases r; rfl
 | ty _=>cases r; rfl
theorem zlg {j pos'} (ha:PE X a ta) : PC X .Is a (.Constant .none j pos') (tIsN ta):=by
 intro pins s σ H Q I h
 refine thn (ha pins s σ H _ I h) fun v s1 ⟨x,H1,I1,r1,q1⟩=>?_
 exact Constant_none (is_none_gen ⟨.bl _,H1,I1,by rw [r1.none_iff]; rfl,q1⟩)
theorem zmh {j pos'} (ha:PE X a ta) : PC X .IsNot a (.Constant .none j pos') (zmV ta):=by
 intro pins s σ H Q I h
 refine thn (ha pins s σ H _ I h) fun v s1 ⟨x,H1,I1,r1,q1⟩=>?_
 exact Constant_none (isnot_none_gen ⟨.bl _,H1,I1,by rw [r1.none_iff]; rfl,q1⟩)
def tB (t:TE) : TT:=fun σ H Q=>t σ H fun x H1=>∃ c,x = .bl c ∧ Q c H1
theorem zon {op:CmpOp} {t:TE} (h:PC X op a b t) (h1:behindInMarks op b = false:=by first | exact zc6 _ (by decide) (by decide) | rfl) : PE X (.Compare a [op] [b] pos) t:=fun pins s σ H Q I hw=>wpAny_Compare1 (h pins s σ H Q I hw) h1
theorem zlk {op:CmpOp} {t:TE} (h:PC X op a b t) (h1:behindInMarks op b = false:=by first | exact zc6 _ (by decide) (by decide) | rfl) : PT X (.Compare a [op] [b] pos) (tB t):=by
 intro pins s σ H Q I hw
 refine wpAny_isTrue_Compare1 (thn (h pins s σ H _ I hw) fun v s1 h1=>thn h1 fun u s2 h2=>thn h2 fun c s3 ⟨x,H1,I1,r1,q1⟩=>?_) h1
 obtain ⟨d,rfl,q⟩:=q1
 cases r1
 exact wpAny_truthy_bool ⟨H1,I1,q⟩
theorem znc {e:Expr} {t:TE} (h:PE X e t) (he:∀ whole,isTrue e X.env whole = (do let v ← whole; standAt e.pos; holding [v] (truthy v)):=by intro _; rfl) : PT X e (tB t):=by
 intro pins s σ H Q I hw
 refine isTrue_plain (thn (h pins s σ H _ I hw) fun v s1 ⟨x,H1,I1,r1,q1⟩=>?_) (he _)
 obtain ⟨d,rfl,q⟩:=q1
 cases r1
 exact wpAny_truthy_bool ⟨H1,I1,q⟩
variable {tA tB':TT} {rest:List Expr}
def tAnd (t u:TT) : TT:=fun σ H Q=>t σ H fun c H1=>if c = true then u σ H1 Q else Q false H1
def tOr (t u:TT) : TT:=fun σ H Q=>t σ H fun c H1=>if c = true then Q true H1 else u σ H1 Q
def tNot (t:TT) : TT:=fun σ H Q=>t σ H fun c H1=>Q (!c) H1
theorem zmO (ha:PT X a tA) : PW X (.BoolOp .And [a] pos) tA:=by
 intro wh pins s σ H Q I h
 refine isTrue_and (thn (ha pins s σ H Q I h) fun c s1 e=>?_)
 cases c with
 | true=>exact isTrue_and_nil e
 | false=>exact e
theorem znd (ha:PT X a tA) : PW X (.BoolOp .Or [a] pos) tA:=by
 intro wh pins s σ H Q I h
 refine isTrue_or (thn (ha pins s σ H Q I h) fun c s1 e=>?_)
 cases c with
 | false=>exact isTrue_or_nil e
 | true=>exact e
theorem zm3 (ha:PT X a tA) (hb:PW X (.BoolOp .And (b :: rest) pos) tB') : PW X (.BoolOp .And (a :: b :: rest) pos) (tAnd tA tB'):=by
 intro wh pins s σ H Q I h
 refine isTrue_and (thn (ha pins s σ H _ I h) fun c s1 ⟨H1,I1,q1⟩=>?_)
 cases c with
 | true=>exact hb wh pins s1 σ H1 Q I1 q1
 | false=>exact ⟨H1,I1,q1⟩
theorem zoP (ha:PT X a tA) (hb:PW X (.BoolOp .Or (b :: rest) pos) tB') : PW X (.BoolOp .Or (a :: b :: rest) pos) (tOr tA tB'):=by
 intro wh pins s σ H Q I h
 refine isTrue_or (thn (ha pins s σ H _ I h) fun c s1 ⟨H1,I1,q1⟩=>?_)
 cases c with
 | true=>exact ⟨H1,I1,q1⟩
 | false=>exact hb wh pins s1 σ H1 Q I1 q1
theorem znM (ha:PT X a tA) : PT X (.UnaryOp .Not a pos) (tNot tA):=by
 intro pins s σ H Q I h
 exact isTrue_not (ha pins s σ H (fun c H1=>Q (!c) H1) I h)
def zlJ (ta tb:TE) : TE:=fun σ H Q=>ta σ H fun x H1=>∃ c,x = .bl c ∧ if c = true then tb σ H1 Q else Q (.bl false) H1
def tOrV (ta tb:TE) : TE:=fun σ H Q=>ta σ H fun x H1=>∃ c,x = .bl c ∧ if c = true then Q (.bl true) H1 else tb σ H1 Q
def znG (ta:TE) : TE:=fun σ H Q=>ta σ H fun x H1=>∃ c,x = .bl c ∧ Q (.bl (!c)) H1
theorem znk {op} {t:TE} (h:PE X a t) : PE X (.BoolOp op [a] pos) t:=fun pins s σ H Q I hw=>BoolOp_one (h pins s σ H Q I hw)
theorem znI (ha:PE X a ta) (hb:PE X (.BoolOp .And (b :: rest) pos) tb) : PE X (.BoolOp .And (a :: b :: rest) pos) (zlJ ta tb):=by
 intro pins s σ H Q I h
 refine BoolOp_and (thn (ha pins s σ H _ I h) fun v s1 ⟨x,H1,I1,r1,q1⟩=>?_)
 obtain ⟨c,rfl,q1⟩:=q1
 cases r1
 refine wpAny_truthy_bool ?_
 cases c with
 | true=>exact hb pins s1 σ H1 Q I1 q1
 | false=>exact ⟨.bl false,H1,I1,rfl,q1⟩
theorem zoT (ha:PE X a ta) (hb:PE X (.BoolOp .Or (b :: rest) pos) tb) : PE X (.BoolOp .Or (a :: b :: rest) pos) (tOrV ta tb):=by
 intro pins s σ H Q I h
 refine BoolOp_or (thn (ha pins s σ H _ I h) fun v s1 ⟨x,H1,I1,r1,q1⟩=>?_)
 obtain ⟨c,rfl,q1⟩:=q1
 cases r1
 refine wpAny_truthy_bool ?_
 cases c with
 | false=>exact hb pins s1 σ H1 Q I1 q1
 | true=>exact ⟨.bl true,H1,I1,rfl,q1⟩
theorem zn3 (ha:PE X a ta) : PE X (.UnaryOp .Not a pos) (znG ta):=by
 intro pins s σ H Q I h
 refine UnaryOp_ (thn (ha pins s σ H _ I h) fun v s1 ⟨x,H1,I1,r1,q1⟩=>?_)
 obtain ⟨c,rfl,q1⟩:=q1
 cases r1
 exact not_of (wpAny_truthy_bool ⟨.bl (!c),H1,I1,rfl,q1⟩)
def tIf (t:TT) (ta tb:TE) : TE:=fun σ H Q=>t σ H fun c H1=>if c = true then ta σ H1 Q else tb σ H1 Q
theorem zkM {c:Expr} (hc:PT X c tA) (ha:PE X a ta) (hb:PE X b tb) : PE X (.IfExp c a b pos) (tIf tA ta tb):=by
 intro pins s σ H Q I h
 refine wpAny_IfExp (thn (hc pins s σ H _ I h) fun d s1 ⟨H1,I1,q1⟩=>?_)
 cases d with
 | true=>exact ha pins s1 σ H1 Q I1 q1
 | false=>exact hb pins s1 σ H1 Q I1 q1
end
end L2
namespace L2
open PySem PySem.Spec PyProof.Rows
def SqL (K:PySem.W.Frag) (H:Hp) (a:Addr) (xs:List V) : Prop :=
 Rd H a (.lst xs) ∨
  ∃ (o:Obj) (its:Array Value) (n:Nat),K.lookup a = some o ∧ o.cls = .type "list" ∧ o.dict = none ∧ o.data = .seq its n ∧ its.size ≤ sizeLine ∧ Vals xs its.toList
def SqT (K:PySem.W.Frag) (H:Hp) (a:Addr) (xs:List V) : Prop :=
 Rd H a (.tup xs) ∨
  ∃ (o:Obj) (its:Array Value) (n:Nat),K.lookup a = some o ∧ o.cls = .type "tuple" ∧ o.data = .seq its n ∧ its.size ≤ sizeLine ∧ Vals xs its.toList
def absV:Value → Option V
 | .none=>some .non
 | .bool b=>some (.bl b)
 | .int i _=>some (.int i)
 | .str x _=>some (.str x)
 | .bytes b _=>some (.byt b)
 | .float b _=>some (.flt b)
 | .ref a=>some (.ref a)
 | .type n=>some (.ty n)
 | _=>none
theorem RelV.abs {x:V} {u:Value} (r:RelV x u) : absV u = some x:=by
 cases x with
 | non=>cases r; rfl
 | bl _=>cases r; rfl
 | int _=>obtain ⟨t,rfl⟩:=r; rfl
 | str _=>obtain ⟨t,rfl⟩:=r; rfl
 | byt _=>obtain ⟨t,rfl⟩:=r; rfl
 | flt _=>obtain ⟨t,rfl⟩:=r; rfl
 | ref _=>cases r; rfl
 | ty _=>cases r; rfl
theorem RelV.inj {x y:V} {u:Value} (r:RelV x u) (q:RelV y u) : x = y:=Option.some.inj (r.abs.symm.trans q.abs)
theorem Vals.inj:∀ {xs ys:List V} {us:List Value},Vals xs us → Vals ys us → xs = ys
 | _,_,_,.nil,.nil=>rfl
 | _,_,_,.cons r t,.cons r' t'=>by rw [r.inj r',Vals.inj t t']
section
variable {X:Cx} {pins:List (Addr × Obj)} {σ:St} {H:Hp} {s:Shared} {a:Addr} {xs ys:List V}
theorem SqL.of {K:PySem.W.Frag} (h:H a = some (.lst xs)) : SqL K H a xs:=.inl (.inl h)
theorem SqT.of {K:PySem.W.Frag} (h:H a = some (.tup xs)) : SqT K H a xs:=.inl (.inl h)
theorem Inv.list (I:Inv X pins σ H s) (h:SqL X.K H a xs) : ∃ its:List Value,Vals xs its ∧ PlainL s.heap a its.toArray ∧ xs.length ≤ sizeLine:=by
 rcases h with h | ⟨o,its,n,hk,hc,hd,hs,hz,r⟩
 ·obtain ⟨z,its,n,r,e⟩:=h.ok I.hok
  exact ⟨its,r,⟨_,n,e,rfl,rfl,rfl⟩,z⟩
 ·refine ⟨its.toList,r,⟨o,n,I.kIn a o hk,hc,hd,by simpa using hs⟩,?_⟩
  have e:=r.length
  simp only [Array.length_toList] at e
  omega
theorem Inv.tuple (I:Inv X pins σ H s) (h:SqT X.K H a xs) : ∃ its:List Value,Vals xs its ∧ IsTup s.heap a its.toArray ∧ xs.length ≤ sizeLine:=by
 rcases h with h | ⟨o,its,n,hk,hc,hs,hz,r⟩
 ·obtain ⟨z,its,r,p⟩:=h.ok I.hok
  exact ⟨its,r,p,z⟩
 ·refine ⟨its.toList,r,⟨o,I.kIn a o hk,hc,n,by simpa using hs⟩,?_⟩
  have e:=r.length
  simp only [Array.length_toList] at e
  omega
theorem Inv.list_inj (I:Inv X pins σ H s) (h:SqL X.K H a xs) (h':SqL X.K H a ys) : xs = ys:=by
 obtain ⟨its,r,⟨o,n,e,_,_,d⟩,_⟩:=I.list h
 obtain ⟨its',r',⟨o',n',e',_,_,d'⟩,_⟩:=I.list h'
 rw [e] at e'; cases e'
 rw [d] at d'
 injection d' with d1 _
 have:its = its':=by simpa using congrArg Array.toList d1
 subst this
 exact r.inj r'
theorem Inv.tuple_inj (I:Inv X pins σ H s) (h:SqT X.K H a xs) (h':SqT X.K H a ys) : xs = ys:=by
 obtain ⟨its,r,⟨o,e,_,n,d⟩,_⟩:=I.tuple h
 obtain ⟨its',r',⟨o',e',_,n',d'⟩,_⟩:=I.tuple h'
 rw [e] at e'; cases e'
 rw [d] at d'
 injection d' with d1 _
 have:its = its':=by simpa using congrArg Array.toList d1
 subst this
 exact r.inj r'
end
abbrev Cx.wish (X:Cx) (E:Value → Shared → Prop) : Cx:={ X with xe:=E }
abbrev Cx.nox (X:Cx) : Cx:=X.wish fun _ _=>False
theorem Cx.Ok.wish {X:Cx} (ok:X.Ok) (E:Value → Shared → Prop) : (X.wish E).Ok :=
 ⟨ok.mod,ok.kind,ok.glob,ok.blt,ok.above,ok.inj,ok.has,ok.cab,ok.hd,ok.frames,ok.stk,ok.exf,ok.bs,ok.bsz,ok.noex,ok.exfs,ok.funs,ok.frf⟩
theorem Cx.Ok.unwish {X:Cx} {E:Value → Shared → Prop} (ok:(X.wish E).Ok) : X.Ok :=
 ⟨ok.mod,ok.kind,ok.glob,ok.blt,ok.above,ok.inj,ok.has,ok.cab,ok.hd,ok.frames,ok.stk,ok.exf,ok.bs,ok.bsz,ok.noex,ok.exfs,ok.funs,ok.frf⟩
section
variable {X:Cx} {pins:List (Addr × Obj)} {σ:St} {H:Hp} {s:Shared} {E:Value → Shared → Prop}
theorem Inv.wish (I:Inv X pins σ H s) (E:Value → Shared → Prop) : Inv (X.wish E) pins σ H s:=⟨I.ok.wish E,I.os,I.bare,I.base,I.loc,I.cell,I.free,I.freeC,I.pin,I.hok,I.len⟩
theorem Inv.unwish (I:Inv (X.wish E) pins σ H s) : Inv X pins σ H s:=⟨I.ok.unwish,I.os,I.bare,I.base,I.loc,I.cell,I.free,I.freeC,I.pin,I.hok,I.len⟩
theorem SP.unwish {D:Ends} {f:Flow} {s':Shared} (h:SP (X.wish E) pins D f s') : SP X pins D f s':=by
 cases f with
 | next=>obtain ⟨σ',H',I,q⟩:=h; exact ⟨σ',H',I.unwish,q⟩
 | brk=>obtain ⟨σ',H',I,q⟩:=h; exact ⟨σ',H',I.unwish,q⟩
 | cont=>obtain ⟨σ',H',I,q⟩:=h; exact ⟨σ',H',I.unwish,q⟩
 | ret u=>obtain ⟨v,σ',H',I,r,q⟩:=h; exact ⟨v,σ',H',I.unwish,r,q⟩
theorem PE.nox {e:Expr} {t:TE} (h:PE X.nox e t) : PE X e t:=fun pins s σ H Q I hw =>
 wpAny_mono (h pins s σ H Q (I.wish _) hw) (fun _ _ ⟨v,H',I',r,q⟩=>⟨v,H',I'.unwish,r,q⟩) fun _ _ z=>False.elim z
theorem PT.nox {e:Expr} {t:TT} (h:PT X.nox e t) : PT X e t:=fun pins s σ H Q I hw =>
 wpAny_mono (h pins s σ H Q (I.wish _) hw) (fun _ _ ⟨H',I',q⟩=>⟨H',I'.unwish,q⟩) fun _ _ z=>False.elim z
theorem PSs.nox {st:List Stmt} {t:TS} (h:PSs X.nox st t) : PSs X st t:=fun pins s σ H D I hw =>
 wpAny_mono (h pins s σ H D (I.wish _) hw) (fun _ _ q=>q.unwish) fun _ _ z=>False.elim z
end
section
variable {X:Cx} {st:Stmt} {rest:List Stmt} {t u:TS} {e:Expr} {te:TE} {pos:Pos}
def zkk:TS:=fun D σ H=>D.nx σ H
def tSeq (t u:TS) : TS:=fun D σ H=>t { D with nx:=u D } σ H
theorem zmW:PSs X [] zkk:=fun _ _ σ H _ I h=>wpAny_execs_nil ⟨σ,H,I,h⟩
theorem zkl (h1:PS X st t) (h2:PSs X rest u) : PSs X (st :: rest) (tSeq t u):=by
 intro pins s σ H D I h
 refine wpAny_execs_cons (thn (h1 pins s σ H { D with nx:=u D } I h) fun f s1 q=>?_)
 cases f with
 | next =>
  obtain ⟨σ',H',I',q⟩:=q
  exact h2 pins s1 σ' H' D I' q
 | ret v=>exact q
 | brk=>exact q
 | cont=>exact q
theorem zl4 (h1:PS X st t) : PSs X [st] t:=by
 intro pins s σ H D I h
 refine wpAny_execs_cons (thn (h1 pins s σ H D I h) fun f s1 q=>?_)
 cases f with
 | next=>exact wpAny_execs_nil q
 | ret v=>exact q
 | brk=>exact q
 | cont=>exact q
theorem Inv.quiet {pins:List (Addr × Obj)} {σ:St} {H:Hp} {s:Shared} (I:Inv X pins σ H s) : interactive X.env = false:=by simp [interactive,I.ok.kind]
def zeX (te:TE) : TS:=fun D σ H=>te σ H fun _ H1=>D.nx σ H1
theorem zhi (he:PE X e te) (hs:swapsWith e none pos.line X.env = pure false:=by rfl) : PS X (.Expr e pos) (zeX te):=by
 intro pins s σ H D I h
 exact wpAny_Expr_any (thn (he pins s σ H _ I h) fun v s1 ⟨x,H1,I1,r1,q1⟩=>⟨σ,H1,I1,q1⟩) I.quiet hs
def tRet (te:TE) : TS:=fun D σ H=>te σ H D.rt
theorem zni (he:PE X e te) : PS X (.Return (some e) pos) (tRet te):=by
 intro pins s σ H D I h
 exact wpAny_Return_some (thn (he pins s σ H _ I h) fun v s1 ⟨x,H1,I1,r1,q1⟩=>⟨x,σ,H1,I1,r1,q1⟩)
def tIfS (c:TT) (t u:TS) : TS:=fun D σ H=>c σ H fun b H1=>if b = true then t D σ H1 else u D σ H1
theorem zoU {c:Expr} {a b:List Stmt} {tc:TT} (hc:PT X c tc) (ha:PSs X a t) (hb:PSs X b u) : PS X (.If c a b pos) (tIfS tc t u):=by
 intro pins s σ H D I h
 refine wpAny_If (thn (hc pins s σ H _ I h) fun d s1 ⟨H1,I1,q1⟩=>?_)
 cases d with
 | true=>exact ha pins s1 σ H1 D I1 q1
 | false=>exact hb pins s1 σ H1 D I1 q1
end
abbrev TG:=V → St → Hp → (St → Hp → Prop) → Prop
abbrev TGs:=List V → St → Hp → (St → Hp → Prop) → Prop
def PG (X:Cx) (target:Expr) (t:TG) : Prop :=
 ∀ (pins:List (Addr × Obj)) (s:Shared) (σ:St) (H:Hp) (v:V) (u:Value) (Q:St → Hp → Prop),Inv X pins σ H s → RelV v u → t v σ H Q →
  wpAny (model X.prog X.w) X.A (assign target X.env u) (fun _ s'=>∃ σ' H',Inv X pins σ' H' s' ∧ Q σ' H') X.xe s
def PGs (X:Cx) (ts:List Expr) (t:TGs) : Prop :=
 ∀ (pins:List (Addr × Obj)) (s:Shared) (σ:St) (H:Hp) (vs:List V) (us:List Value) (Q:St → Hp → Prop),Inv X pins σ H s → Vals vs us → t vs σ H Q →
  wpAny (model X.prog X.w) X.A (assignInOrder ((assignEach ts X.env).map (·.2)) us) (fun _ s'=>∃ σ' H',Inv X pins σ' H' s' ∧ Q σ' H') X.xe s
abbrev TSet:=V → V → V → Hp → (Hp → Prop) → Prop
def PSet (X:Cx) (t:TSet) : Prop :=
 ∀ (pins:List (Addr × Obj)) (s:Shared) (σ:St) (H:Hp) (o i v:V) (ov iv u:Value) (Q:Hp → Prop),Inv X pins σ H s → RelV o ov → RelV i iv → RelV v u → t o i v H Q →
  wpAny (model X.prog X.w) X.A (setItem ov iv u) (fun _ s'=>∃ H',Inv X pins σ H' s' ∧ Q H') X.xe s
section
variable {X:Cx} {pos:Pos}
def zaw (i:Nat) : TG:=fun v σ H Q=>Q (σ.set i (some v)) H
theorem zmN {i:Nat} {x:Str} (hN:X.N.Nodup) (hi:X.N[i]? = some x) (hx:Loc X.env.scope x) (hf:X.fn x = true ∨ X.env.scope.names.lookup x = some .local:=by first | exact .inl rfl | exact .inr rfl | assumption) : PG X (.Name x pos) (zaw i):=by
 intro pins s σ H v u Q I r h
 exact wpAny_assign_Name (zfK I hN hi hx r (fun s' I'=>⟨_,H,I',h⟩) hf)
def gNil:TGs:=fun vs σ H Q=>vs = [] ∧ Q σ H
def zbp (t:TG) (u:TGs) : TGs:=fun vs σ H Q=>∃ v r,vs = v :: r ∧ t v σ H fun σ' H'=>u r σ' H' Q
theorem zlN:PGs X [] gNil:=by
 intro pins s σ H vs us Q I r h
 obtain ⟨e,h⟩:=h
 subst e
 cases r
 exact assignInOrder_nil ⟨σ,H,I,h⟩
theorem zkJ {e:Expr} {es:List Expr} {t:TG} {u:TGs} (h1:PG X e t) (h2:PGs X es u)
  (hs:(assignEach (e :: es) X.env).map (·.2) = assign e X.env :: (assignEach es X.env).map (·.2):=by rfl) : PGs X (e :: es) (zbp t u):=by
 intro pins s σ H vs us Q I r h
 obtain ⟨v,vr,e1,h⟩:=h
 subst e1
 cases r with
 | cons r rr =>
  rw [hs]
  refine assignInOrder_cons (thn (h1 pins s σ H _ _ _ I r h) fun _ s1 ⟨σ1,H1,I1,q1⟩=>?_)
  exact h2 pins s1 σ1 H1 _ _ Q I1 rr q1
def gTup (K:PySem.W.Frag) (n:Nat) (t:TGs) : TG:=fun v σ H Q=>∃ a xs,v = .ref a ∧ SqT K H a xs ∧ xs.length = n ∧ t xs σ H Q
theorem zng {es:List Expr} {k:Nat} {t:TGs} {n:Nat} (hc:X.calm = true) (h:PGs X es t)
  (hn:(assignEach es X.env).length = n:=by rfl) (hst:(assignEach es X.env).findIdx? (·.1) = none:=by rfl) : PG X (.Tuple es k pos) (gTup X.K n t):=by
 intro pins s σ H v u Q I r hw
 obtain ⟨a,xs,e1,hq,hl,hw⟩:=hw
 subst e1
 cases r
 obtain ⟨its,rv,ht,hz⟩:=I.tuple hq
 refine assign_Tuple_tuple (I.ok.hd hc) ht (by simp [hn,← hl,rv.length]) hst fun h' hx=>?_
 have I1:Inv X pins σ H { s with heap:=h' }:=I.kept (t':=s.toks) fun b o e=>hx b o (Nat.ne_of_lt (Heap.lt_size e)) e
 exact h pins _ σ H xs _ Q I1 (by simpa using rv) hw
def gSub (to ti:TE) (t:TSet) : TG:=fun v σ H Q=>to σ H fun o H1=>ti σ H1 fun i H2=>t o i v H2 fun H3=>Q σ H3
theorem zne {o i:Expr} {to ti:TE} {t:TSet} (ho:PE X o to) (hi:PE X i ti) (hs:PSet X t)
  (ha:∀ v,assign (.Subscript o i pos) X.env v = (do
   let ov ← holding [v] (eval o X.env)
   let iv ← holding [v,ov] (eval i X.env)
   standAt pos
   holding [v,ov,iv] (setItem ov iv v)
   release [v,ov,iv] []):=by intro _; rfl) : PG X (.Subscript o i pos) (gSub to ti t):=by
 intro pins s σ H v u Q I r h
 rw [ha]
 refine wpAny_bind (wpAny_holding (thn (ho pins s σ H _ I h) fun ov s1 ⟨x,H1,I1,r1,q1⟩=>?_))
 refine wpAny_bind (wpAny_holding (thn (hi pins s1 σ H1 _ I1 q1) fun iv s2 ⟨y,H2,I2,r2,q2⟩=>?_))
 refine wpAny_bind (wpAny_standAt (wpAny_bind (wpAny_holding (thn (hs pins s2 σ H2 x y v ov iv u _ I2 r1 r2 r q2) fun _ s3 ⟨H3,I3,q3⟩=>?_))))
 exact wpAny_release ⟨σ,H3,I3,q3⟩
def tAsg (te:TE) (g:TG) : TS:=fun D σ H=>te σ H fun x H1=>g x σ H1 D.nx
theorem zm0 {tg e:Expr} {te:TE} {g:TG} (he:PE X e te) (hg:PG X tg g) (hs:swapsWithSole [tg] e pos.line X.env = pure false:=by rfl) (hw:swappedStores [tg] e X.env = pure none:=by rfl)
  (h1:(assignEach [tg] X.env).map (·.2) = [assign tg X.env]:=by rfl) : PS X (.Assign [tg] e pos) (tAsg te g):=by
 intro pins s σ H D I h
 refine wpAny_Assign_stores (thn (he pins s σ H _ I h) fun v s1 ⟨x,H1,I1,r1,q1⟩=>?_) hs hw
 rw [h1]
 exact thn (hg pins s1 σ H1 x v _ I1 r1 q1) fun _ s2 q=>q
theorem zli {i:Nat} {x:Str} {e:Expr} {te:TE} {pos':Pos} (hN:X.N.Nodup) (hi:X.N[i]? = some x) (hx:Loc X.env.scope x) (he:PE X e te) (hs:swapsWith e (some (.Name x pos')) pos.line X.env = pure false:=by rfl) (hf:X.fn x = true ∨ X.env.scope.names.lookup x = some .local:=by first | exact .inl rfl | exact .inr rfl | assumption) :
  PS X (.Assign [.Name x pos'] e pos) (tAsg te (zaw i)):=by
 intro pins s σ H D I h
 refine wpAny_Assign_Name (thn (he pins s σ H _ I h) fun v s1 ⟨y,H1,I1,r1,q1⟩=>?_) hs
 exact zfK I1 hN hi hx r1 (fun s2 I2=>⟨_,H1,I2,q1⟩) hf
end
section
variable {X:Cx} {pos:Pos}
def zls (c:TT) (tb:TS) : TS:=fun D σ H=>∃ W:Nat → St → Hp → Prop,(∃ m,W m σ H) ∧ ∀ m σ H,W m σ H →
 c σ H fun b H1=>if b = true then ∃ N:St → Hp → Prop,(∀ σ' H',N σ' H' → ∃ m',m' < m ∧ W m' σ' H') ∧ tb { D with nx:=N,ct:=N,bk:=D.nx } σ H1 else D.nx σ H1
theorem zkL {c:Expr} {body:List Stmt} {tc:TT} {tb:TS} (hp:PassesOwn (model X.prog X.w) X.A X.env X.xe) (hc:PT X c tc) (hb:PSs X body tb) : PS X (.While c body [] pos) (zls tc tb):=by
 intro pins s σ H D I h
 obtain ⟨W,⟨m0,w0⟩,turn⟩:=h
 refine wpAny_While (codeAny_whileLoop (fun n s'=>∃ σ' H',Inv X pins σ' H' s' ∧ W n σ' H') ?_ m0 ⟨σ,H,I,w0⟩)
 rintro n s1 ⟨σ1,H1,I1,w1⟩
 refine wpAny_passesOwn hp (thn (hc pins s1 σ1 H1 _ I1 (turn n σ1 H1 w1)) fun b s2 ⟨H2,I2,q2⟩=>?_)
 cases b with
 | true =>
  obtain ⟨N,hN,q2⟩:=q2
  rw [if_pos rfl]
  refine wpAny_passesOwn hp (thn (hb pins s2 σ1 H2 _ I2 q2) fun f s3 q3=>?_)
  cases f with
  | next =>
   obtain ⟨σ3,H3,I3,n3⟩:=q3
   obtain ⟨m',hm,w3⟩:=hN σ3 H3 n3
   exact ⟨m',hm,σ3,H3,I3,w3⟩
  | cont =>
   obtain ⟨σ3,H3,I3,n3⟩:=q3
   obtain ⟨m',hm,w3⟩:=hN σ3 H3 n3
   exact ⟨m',hm,σ3,H3,I3,w3⟩
  | brk=>exact q3
  | ret v=>exact q3
 | false =>
  rw [if_neg Bool.false_ne_true]
  exact wpAny_execs_nil ⟨σ1,H2,I2,q2⟩
end
structure It where
 go:Nat → Hp → Prop
 yld:Nat → Hp → V → Hp → Prop
 stop:Nat → Hp → Prop
def FpOk (X:Cx) (pins:List (Addr × Obj)) (H:Hp) (b:Addr) : Prop :=
 H b = none ∧ b ≠ X.env.locals ∧ b ∉ X.fs ∧ (b ∈ X.ex ∨ X.s₀.heap.objs.size ≤ b) ∧ (∀ x c,X.env.cells.lookup x = some c → c ≠ b) ∧ ∀ p ∈ X.pn ++ pins,p.1 ≠ b
theorem Inv.fpOk {X:Cx} {pins:List (Addr × Obj)} {σ:St} {H H':Hp} {s:Shared} {b:Addr} (I:Inv X pins σ H s) (hb:s.heap.objs.size ≤ b) (hn:H' b = none) : FpOk X pins H' b:=by
 refine ⟨hn,Nat.ne_of_gt (Nat.lt_of_lt_of_le I.lt hb),I.nofs hb,.inr (Nat.le_trans I.sz hb),fun x c e z=>?_,fun p hp z=>?_⟩
 ·obtain ⟨v,q⟩:=I.cell x c e
  exact absurd (Nat.lt_of_lt_of_le q.lt (by rw [z]; exact hb)) (Nat.lt_irrefl _)
 ·exact absurd (Nat.lt_of_lt_of_le (Heap.lt_size (I.pin p hp).1) (by rw [z]; exact hb)) (Nat.lt_irrefl _)
structure Turn (P:Program) (w:World) (K:PySem.W.Frag) (tg:Expr) (J:It) (fp:List Addr) (it:Addr) (tn:Nat → Heap → Prop) : Prop where
 mem:it ∈ fp
 obj:∀ i h,tn i h → ∀ b ∈ fp,∃ o,h.get? b = some o ∧ ∀ v,o.data ≠ .cell v
 keep:∀ i h h',tn i h → (∀ b ∈ fp,∀ o,h.get? b = some o → h'.get? b = some o) → tn i h'
 item:∀ (X:Cx),X.prog = P → X.w = w → X.K = K → X.calm = true → ∀ (i:Nat) (pins:List (Addr × Obj)) (s:Shared) (σ:St) (H:Hp) (E:Value → Shared → Prop),Inv X pins σ H s → (∀ b ∈ fp,FpOk X pins H b) → tn i s.heap → J.go i H →
  wpAny (model P w) X.A (pyNext (.ref it)) (fun r s1=>∃ u,r = some u ∧
   wpAny (model P w) X.A (letOwnedTupleGo tg (.ref it) u) (fun _ s2=>∃ x H',Inv X pins σ H' s2 ∧ RelV x u ∧ J.yld i H x H' ∧ tn (i + 1) s2.heap ∧ ∀ b ∈ fp,H' b = none) E s1) E s
 done:∀ (X:Cx),X.prog = P → X.w = w → X.K = K → X.calm = true → ∀ (i:Nat) (pins:List (Addr × Obj)) (s:Shared) (σ:St) (H:Hp) (E:Value → Shared → Prop),Inv X pins σ H s → (∀ b ∈ fp,FpOk X pins H b) → tn i s.heap → J.stop i H →
  wpAny (model P w) X.A (pyNext (.ref it)) (fun r s1=>r = none ∧ Inv X pins σ H s1) E s
 self:∀ (A:Around) (i:Nat) (s:Shared) (Q:Value → Shared → Prop) (E:Value → Shared → Prop),tn i s.heap → Q (.ref it) s → wpAny (model P w) A (pyIter (.ref it)) Q E s
abbrev TI:=St → Hp → (It → Hp → Prop) → Prop
def PIE (X:Cx) (pins:List (Addr × Obj)) (σ:St) (tg:Expr) (R:It → Hp → Prop) (itv:Value) (s2:Shared) : Prop :=
 ∃ (it:Addr) (fp:List Addr) (tn:Nat → Heap → Prop) (J:It) (H':Hp),itv = .ref it ∧ Inv X pins σ H' s2 ∧ Turn X.prog X.w X.K tg J fp it tn ∧ tn 0 s2.heap ∧ (∀ b ∈ fp,FpOk X pins H' b) ∧ R J H'
def PI (X:Cx) (tg iter:Expr) (wi:TI) : Prop :=
 ∀ (pins:List (Addr × Obj)) (s:Shared) (σ:St) (H:Hp) (R:It → Hp → Prop),Inv X pins σ H s → wi σ H R →
  wpAny (model X.prog X.w) X.A (eval iter X.env) (fun v s1=>wpAny (model X.prog X.w) X.A (pyIter v) (PIE X pins σ tg R) X.xe s1) X.xe s
theorem zj0 {M : Model} {A : Around} {E : Value → Shared → Prop} {s : Shared} {tg : Expr} {it : Addr} {u : Value} {o : Obj} {n : String} {vs : Array Value} {Q : Unit → Shared → Prop} (ho : s.heap.get? it = some o) (hc : o.cls = .type n) (hd : o.data = .fields vs)
    (hn : ["enumerate","zip","dict_itemiterator","dict_reverseitemiterator","odict_iterator","itertools.zip_longest","itertools.pairwise"].contains n = false) (hQ:Q () s) : wpAny M A (letOwnedTupleGo tg (.ref it) u) Q E s:=by
  unfold letOwnedTupleGo
  cases tg <;> first
    | exact wpAny_pure hQ
    | (cases u <;> first
        | exact wpAny_pure hQ
        | (refine wpAny_bind (wpAny_load ho ?_)
           rw [hc,hd]
           show wpAny M A (if (["enumerate","zip","dict_itemiterator","dict_reverseitemiterator","odict_iterator","itertools.zip_longest","itertools.pairwise"].contains n && vs[0]? == some (rawInt _)) = true then _ else _) Q E s
           rw [if_neg (by intro h; rw [hn,Bool.false_and] at h; cases h)]
           exact wpAny_pure hQ))
def Itl (K:PySem.W.Frag) (a:Addr) : It :=
 ⟨fun i H=>∃ xs x,SqL K H a xs ∧ xs[i]? = some x,fun i H x H'=>H' = H ∧ ∀ xs,SqL K H a xs → xs[i]? = some x,fun i H=>∃ xs,SqL K H a xs ∧ xs.length ≤ i⟩
def Itt (K:PySem.W.Frag) (a:Addr) : It :=
 ⟨fun i H=>∃ xs x,SqT K H a xs ∧ xs[i]? = some x,fun i H x H'=>H' = H ∧ ∀ xs,SqT K H a xs → xs[i]? = some x,fun i H=>∃ xs,SqT K H a xs ∧ xs.length ≤ i⟩
def Itr (lo:Int) (n:Nat) : It:=⟨fun i _=>i < n,fun i H x H'=>H' = H ∧ x = .int (lo + i),fun i _=>n ≤ i⟩
theorem zi7 {P:Program} {w:World} {K:PySem.W.Frag} {tg:Expr} (a it:Addr) : Turn P w K tg (Itl K a) [it] it (fun i h=>h.IsListIter it a i) where
 mem:=by simp
 obj:=fun i h st b hb=>by
  have e:b = it:=by simpa using hb
  subst e
  obtain ⟨o,e,c,d⟩:=st
  exact ⟨o,e,fun v z=>by rw [d] at z; cases z⟩
 keep:=fun i h h' st k=>st.at fun o e=>k it (by simp) o e
 item:=by
  intro X hP hw hK hc i pins s σ H E I hf st hg
  subst hP hw hK
  obtain ⟨xs,x,hq,hx⟩:=hg
  obtain ⟨its,rv,p,hz⟩:=I.list hq
  obtain ⟨u,hu,ru⟩:=rv.get hx
  obtain ⟨f0,f1,f2,f3,f4,f5⟩:=hf it (by simp)
  refine wpAny_pyNext_list_item st p.isList (x:=u) (by simpa using hu) fun h' st' sb=>?_
  have I1:Inv X pins σ H { s with heap:=h' }:=I.turned (t':=s.toks) (fun b o hb e=>(sb.2 b hb).trans e) f0 f1 f3 f4 f5
  obtain ⟨o,e,c,d⟩:=id st'
  exact ⟨u,rfl,zj0 (s:={ s with heap:=h' }) e c d (by decide) ⟨x,H,I1,ru,⟨rfl,fun ys hy=>by rw [I.list_inj hy hq]; exact hx⟩,st',fun b hb=>(hf b hb).1⟩⟩
 done:=by
  intro X hP hw hK hc i pins s σ H E I hf st hg
  subst hP hw hK
  obtain ⟨xs,hq,hx⟩:=hg
  obtain ⟨its,rv,p,hz⟩:=I.list hq
  obtain ⟨f0,f1,f2,f3,f4,f5⟩:=hf it (by simp)
  have hl:=rv.length
  exact wpAny_pyNext_list_end (I.ok.hd hc) st p.isList (by simp; omega) fun h' eb=>⟨rfl,I.turned (t':=s.toks) (fun b o hb e=>eb b o hb e) f0 f1 f3 f4 f5⟩
 self:=fun _ _ _ _ _ st h=>wpAny_pyIter_listiter st h
theorem zic {P:Program} {w:World} {K:PySem.W.Frag} {tg:Expr} (a it:Addr) : Turn P w K tg (Itt K a) [it] it (fun i h=>h.IsTupleIter it a i) where
 mem:=by simp
 obj:=fun i h st b hb=>by
  have e:b = it:=by simpa using hb
  subst e
  obtain ⟨o,e,c,d⟩:=st
  exact ⟨o,e,fun v z=>by rw [d] at z; cases z⟩
 keep:=fun i h h' st k=>st.at fun o e=>k it (by simp) o e
 item:=by
  intro X hP hw hK hc i pins s σ H E I hf st hg
  subst hP hw hK
  obtain ⟨xs,x,hq,hx⟩:=hg
  obtain ⟨its,rv,p,hz⟩:=I.tuple hq
  obtain ⟨u,hu,ru⟩:=rv.get hx
  obtain ⟨f0,f1,f2,f3,f4,f5⟩:=hf it (by simp)
  refine wpAny_pyNext_tuple_item st (show s.heap.IsTuple a its.toArray from p) (x:=u) (by simpa using hu) fun h' st' sb=>?_
  have I1:Inv X pins σ H { s with heap:=h' }:=I.turned (t':=s.toks) (fun b o hb e=>(sb.2 b hb).trans e) f0 f1 f3 f4 f5
  obtain ⟨o,e,c,d⟩:=id st'
  exact ⟨u,rfl,zj0 (s:={ s with heap:=h' }) e c d (by decide) ⟨x,H,I1,ru,⟨rfl,fun ys hy=>by rw [I.tuple_inj hy hq]; exact hx⟩,st',fun b hb=>(hf b hb).1⟩⟩
 done:=by
  intro X hP hw hK hc i pins s σ H E I hf st hg
  subst hP hw hK
  obtain ⟨xs,hq,hx⟩:=hg
  obtain ⟨its,rv,p,hz⟩:=I.tuple hq
  obtain ⟨f0,f1,f2,f3,f4,f5⟩:=hf it (by simp)
  have hl:=rv.length
  exact wpAny_pyNext_tuple_end (I.ok.hd hc) st (show s.heap.IsTuple a its.toArray from p) (by simp; omega) fun h' eb=>⟨rfl,I.turned (t':=s.toks) (fun b o hb e=>eb b o hb e) f0 f1 f3 f4 f5⟩
 self:=fun _ _ _ _ _ st h=>wpAny_pyIter_tupleiter st h
theorem zie {P:Program} {w:World} {K:PySem.W.Frag} {tg:Expr} (it:Addr) (lo:Int) (n:Nat) : Turn P w K tg (Itr lo n) [it] it (fun i h=>IsRangeIter h it (lo + (i:Nat) * 1) ((n:Int) - (i:Nat)) 1) where
 mem:=by simp
 obj:=fun i h st b hb=>by
  have e:b = it:=by simpa using hb
  subst e
  exact ⟨_,st,fun v z=>by
   have z':Data.fields _ = Data.cell v:=z
   cases z'⟩
 keep:=fun i h h' st k=>k it (by simp) _ st
 item:=by
  intro X hP hw hK hc i pins s σ H E I hf st hg
  subst hP hw hK
  obtain ⟨f0,f1,f2,f3,f4,f5⟩:=hf it (by simp)
  have W:=Walks.range (prog:=X.prog) (w:=X.w) (I.ok.hd hc) it lo 1 n
  refine W.item i s _ _ hg st fun v h' tk hv st' kk=>?_
  obtain ⟨t,rfl⟩:=hv
  have I1:Inv X pins σ H { s with heap:=h',toks:=tk }:=I.turned (fun b o hb e=>kk b o (by simpa using hb) e) f0 f1 f3 f4 f5
  refine ⟨_,rfl,zj0 (s:={ s with heap:=h',toks:=tk }) (n := "range_iterator") st' rfl rfl (by decide) ⟨.int (lo + i),H,I1,⟨t,?_⟩,⟨rfl,rfl⟩,st',fun b hb=>(hf b hb).1⟩⟩
  rw [Int.mul_one]
 done:=by
  intro X hP hw hK hc i pins s σ H E I hf st hg
  subst hP hw hK
  obtain ⟨f0,f1,f2,f3,f4,f5⟩:=hf it (by simp)
  exact wpAny_pyNext_range_end (I.ok.hd hc) st (by have:n ≤ i:=hg; omega) fun h' eb=>⟨rfl,I.turned (t':=s.toks) (fun b o hb e=>eb b o hb e) f0 f1 f3 f4 f5⟩
 self:=fun _ _ _ _ _ st h=>wpAny_pyIter_rangeiter st h
end L2
namespace L2
open PySem PySem.Spec PyProof.Rows
section
variable {X:Cx} {tg:Expr}
def zlV (K:PySem.W.Frag) (tl:TE) : TI:=fun σ H R=>tl σ H fun x H1=>∃ a,x = .ref a ∧ (∃ xs,SqL K H1 a xs) ∧ R (Itl K a) H1
def iTup (K:PySem.W.Frag) (tl:TE) : TI:=fun σ H R=>tl σ H fun x H1=>∃ a,x = .ref a ∧ (∃ xs,SqT K H1 a xs) ∧ R (Itt K a) H1
theorem zmP {l:Expr} {tl:TE} (hl:PE X l tl) : PI X tg l (zlV X.K tl):=by
 intro pins s σ H R I h
 refine thn (hl pins s σ H _ I h) fun v s1 ⟨x,H1,I1,r1,q1⟩=>?_
 obtain ⟨a,e,⟨xs,hq⟩,q⟩:=q1
 subst e
 cases r1
 obtain ⟨its,rv,p,hz⟩:=I1.list hq
 refine wpAny_pyIter_list p.isList ?_
 refine ⟨s1.heap.objs.size,[s1.heap.objs.size],_,_,H1,rfl,I1.kept (t':=s1.toks) fun b o e=>Heap.get?_push_of_some _ e,zi7 a _,⟨_,Heap.get?_push_size _ rfl,rfl,rfl⟩,fun b hb=>?_,q⟩
 have e:b = s1.heap.objs.size:=by simpa using hb
 subst e
 exact I1.fpOk (Nat.le_refl _) (I1.hok.fresh (Nat.le_refl _))
theorem znO {l:Expr} {tl:TE} (hl:PE X l tl) : PI X tg l (iTup X.K tl):=by
 intro pins s σ H R I h
 refine thn (hl pins s σ H _ I h) fun v s1 ⟨x,H1,I1,r1,q1⟩=>?_
 obtain ⟨a,e,⟨xs,hq⟩,q⟩:=q1
 subst e
 cases r1
 obtain ⟨its,rv,p,hz⟩:=I1.tuple hq
 refine wpAny_pyIter_tuple (show s1.heap.IsTuple a its.toArray from p) ?_
 refine ⟨s1.heap.objs.size,[s1.heap.objs.size],_,_,H1,rfl,I1.kept (t':=s1.toks) fun b o e=>Heap.get?_push_of_some _ e,zic a _,⟨_,Heap.get?_push_size _ rfl,rfl,rfl⟩,fun b hb=>?_,q⟩
 have e:b = s1.heap.objs.size:=by simpa using hb
 subst e
 exact I1.fpOk (Nat.le_refl _) (I1.hok.fresh (Nat.le_refl _))
theorem zj7 {pins:List (Addr × Obj)} {σ:St} {H:Hp} {s:Shared} {R:It → Hp → Prop} {E:Value → Shared → Prop} {lo hi:Int} {t u v:Tok} {tk:Nat} (I:Inv X pins σ H s) (h1 : -(2 ^ 62) ≤ lo) (h2:lo < 2 ^ 62) (h3 : -(2 ^ 62) ≤ hi) (h4:hi < 2 ^ 62)
  (q:R (Itr lo (hi - lo).toNat) H) : wpAny (model X.prog X.w) X.A (pyIter (.ref s.heap.objs.size)) (PIE X pins σ tg R) E { s with heap:=s.heap.push { cls:=.type "range", data:=.fields #[.int lo t,.int hi u,.int 1 v] },toks:=tk }:=by
 refine wpAny_pyIter_range (IsRange.new ..) (small_one h1 h2 h3 h4) ?_
 have I1:Inv X pins σ H { s with heap:=s.heap.push { cls:=.type "range", data:=.fields #[.int lo t,.int hi u,.int 1 v] },toks:=tk }:=I.kept fun b o e=>Heap.get?_push_of_some _ e
 refine ⟨(s.heap.push { cls:=.type "range", data:=.fields #[.int lo t,.int hi u,.int 1 v] }).objs.size,[(s.heap.push { cls:=.type "range", data:=.fields #[.int lo t,.int hi u,.int 1 v] }).objs.size],_,_,H,rfl,
  I1.kept (t':=tk) fun b o e=>Heap.get?_push_of_some _ e,zie _ lo (hi - lo).toNat,?_,fun b hb=>?_,q⟩
 ·have e1:lo + ((0:Nat) : Int) * 1 = lo:=by simp
  have e2:(((hi - lo).toNat:Nat) : Int) - ((0:Nat) : Int) = Builtin.Range.rangeSize lo hi 1:=by rw [rangeSize_one]; split <;> omega
  show IsRangeIter _ _ (lo + ((0:Nat) : Int) * 1) ((((hi - lo).toNat:Nat) : Int) - ((0:Nat) : Int)) 1
  rw [e1,e2]
  exact Heap.get?_push_size _ rfl
 ·have e:b = (s.heap.push { cls:=.type "range", data:=.fields #[.int lo t,.int hi u,.int 1 v] }).objs.size:=by simpa using hb
  subst e
  exact I1.fpOk (Nat.le_refl _) (I1.hok.fresh (Nat.le_refl _))
def znt (ta:TA) : TI:=fun σ H R=>ta σ H fun vs H1=>∃ j:Int,vs = [.int j] ∧ -(2 ^ 62) ≤ j ∧ j < 2 ^ 62 ∧ R (Itr 0 j.toNat) H1
theorem ziF {a:Expr} {ta:TA} {p pos:Pos} (hg:Gl X "range") (hm:X.mg "range" = none) (ha:PA X [a] ta) (hs:starEach [a] X.env = [(false,eval a X.env)]:=by rfl) : PI X tg (.Call (.Name "range" p) [a] [] pos) (znt ta):=by
 intro pins s σ H R I h
 refine Call_ (zed I hg hm boot_range (PyProof.Rows.callWith_type1 (thn (ha pos pins s σ H _ I h) fun us s1 ⟨vs,H1,I1,r1,q1⟩=>?_) hs rfl))
 obtain ⟨j,e,q1,q2,q⟩:=q1
 subst e
 cases r1 with
 | cons r rr =>
  cases rr
  obtain ⟨t,rfl⟩:=r
  exact call_range_1 (zj7 I1 (by omega) (by omega) q1 q2 (by simpa using q))
def tFor (wi:TI) (g:TG) (tb:TS) : TS:=fun D σ H=>wi σ H fun J H1=>∃ W:Nat → Nat → St → Hp → Prop,(∃ m,W 0 m σ H1) ∧ ∀ i m σ H,W i m σ H →
 (J.stop i H ∧ D.nx σ H) ∨ (J.go i H ∧ ∃ N:St → Hp → Prop,(∀ σ' H',N σ' H' → ∃ m',m' < m ∧ W (i + 1) m' σ' H') ∧ ∀ x H',J.yld i H x H' → g x σ H' fun σ2 H2=>tb { D with nx:=N,ct:=N,bk:=D.nx } σ2 H2)
def zff (fp:List Addr) (h:Heap) : List (Addr × Obj):=fp.filterMap fun b=>(h.get? b).map fun o=>(b,o)
theorem zbh {fp:List Addr} {h:Heap} {b:Addr} {o:Obj} (hb:b ∈ fp) (e:h.get? b = some o) : (b,o) ∈ zff fp h:=List.mem_filterMap.mpr ⟨b,hb,by rw [e]; rfl⟩
theorem ziB {fp:List Addr} {h:Heap} {p:Addr × Obj} (hp:p ∈ zff fp h) : p.1 ∈ fp ∧ h.get? p.1 = some p.2:=by
 obtain ⟨b,hb,e⟩:=List.mem_filterMap.mp hp
 cases q:h.get? b with
 | none=>rw [q] at e; cases e
 | some o =>
  rw [q] at e
  have e':(b,o) = p:=Option.some.inj e
  subst e'
  exact ⟨hb,q⟩
theorem Inv.pinned {pins:List (Addr × Obj)} {σ:St} {H:Hp} {s:Shared} {fp:List Addr} (I:Inv X pins σ H s) (hf:∀ b ∈ fp,FpOk X pins H b) (ho:∀ b ∈ fp,∃ o,s.heap.get? b = some o ∧ ∀ v,o.data ≠ .cell v) : Inv X (pins ++ zff fp s.heap) σ H s :=
 I.pins_of fun p hp=>(List.mem_append.mp hp).elim (fun z=>I.pin p (List.mem_append_right _ z)) fun z=>by
  obtain ⟨hb,e⟩:=ziB z
  obtain ⟨f0,f1,f2,_⟩:=hf p.1 hb
  obtain ⟨o,e',d⟩:=ho p.1 hb
  rw [e] at e'; cases e'
  exact ⟨e,f0,f1,f2,d⟩
theorem Inv.unpinned {pins pl:List (Addr × Obj)} {σ:St} {H:Hp} {s:Shared} (I:Inv X (pins ++ pl) σ H s) : Inv X pins σ H s:=I.pins_of fun p hp=>I.pin p (List.mem_append_right _ (List.mem_append_left _ hp))
theorem znn {iter:Expr} {body:List Stmt} {wi:TI} {g:TG} {tb:TS} {pos:Pos} (hp:PassesOwn (model X.prog X.w) X.A X.env X.xe) (hc:X.calm = true) (hi:PI X tg iter wi) (hg:PG X tg g) (hb:PSs X body tb)
  (hs:∀ x,foldedSetIterable iter X.env x = pure x:=by intro _; rfl) : PS X (.For tg iter body [] pos) (tFor wi g tb):=by
 intro pins s σ H D I h
 refine wpAny_For (thn (hi pins s σ H _ I h) fun v s1 h1=>thn h1 fun itv s2 h2=>?_) hs
 obtain ⟨it,fp,tn,J,H2,e,I2,T,st2,f2,W,⟨m0,w0⟩,turn⟩:=h2
 subst e
 have stat:∀ {H':Hp},(∀ b ∈ fp,H' b = none) → ∀ b ∈ fp,FpOk X pins H' b:=fun hn b hb=>⟨hn b hb,(f2 b hb).2⟩
 refine codeAny_forLoop_any (fun n s'=>∃ i σ' H',Inv X pins σ' H' s' ∧ tn i s'.heap ∧ (∀ b ∈ fp,H' b = none) ∧ W i n σ' H') ?_ m0 ⟨0,σ,H2,I2,st2,fun b hb=>(f2 b hb).1,w0⟩
 rintro n s3 ⟨i,σ3,H3,I3,st3,fr3,w3⟩
 rcases turn i n σ3 H3 w3 with ⟨stop,qn⟩ | ⟨go,N,hN,step⟩
 ·refine wpAny_passesOwn hp (thn (T.done X rfl rfl rfl hc i pins s3 σ3 H3 X.xe I3 (stat fr3) st3 stop) fun r s4 ⟨hr,I4⟩=>?_)
  subst hr
  exact wpAny_execs_nil ⟨σ3,H3,I4,qn⟩
 ·refine wpAny_passesOwn hp (thn (T.item X rfl rfl rfl hc i pins s3 σ3 H3 X.xe I3 (stat fr3) st3 go) fun r s4 ⟨u,hr,h4⟩=>?_)
  subst hr
  refine wpAny_passesOwn hp (thn h4 fun _ s5 ⟨x,H5,I5,r5,y5,st5,fr5⟩=>?_)
  have I5':=I5.pinned (stat fr5) (T.obj _ _ st5)
  refine wpAny_passesOwn hp (thn (hg _ s5 σ3 H5 x u _ I5' r5 (step x H5 y5)) fun _ s6 ⟨σ6,H6,I6,q6⟩=>?_)
  refine wpAny_passesOwn hp (thn (hb _ s6 σ6 H6 _ I6 q6) fun f s7 q7=>?_)
  have again:∀ {σ7:St} {H7:Hp},Inv X (pins ++ zff fp s5.heap) σ7 H7 s7 → N σ7 H7 → ∃ m,m < n ∧ ∃ i σ' H',Inv X pins σ' H' s7 ∧ tn i s7.heap ∧ (∀ b ∈ fp,H' b = none) ∧ W i m σ' H':=fun {σ7 H7} I7 n7=>by
   obtain ⟨m',hm,w7⟩:=hN σ7 H7 n7
   refine ⟨m',hm,i + 1,σ7,H7,I7.unpinned,T.keep _ _ _ st5 fun b hb o e=>(I7.pin (b,o) (List.mem_append_right _ (List.mem_append_right _ (zbh hb e)))).1,fun b hb=>?_,w7⟩
   obtain ⟨o,e,d⟩:=T.obj _ _ st5 b hb
   exact (I7.pin (b,o) (List.mem_append_right _ (List.mem_append_right _ (zbh hb e)))).2.1
  cases f with
  | next=>obtain ⟨σ7,H7,I7,n7⟩:=q7; exact again I7 n7
  | cont=>obtain ⟨σ7,H7,I7,n7⟩:=q7; exact again I7 n7
  | brk=>obtain ⟨σ7,H7,I7,q7⟩:=q7; exact ⟨σ7,H7,I7.unpinned,q7⟩
  | ret v=>obtain ⟨x7,σ7,H7,I7,r7,q7⟩:=q7; exact ⟨x7,σ7,H7,I7.unpinned,r7,q7⟩
end
theorem zaA {K:PySem.W.Frag} {a:Addr} {xs:List V} {g:TG} {tb:TS} {D:Ends} {σ:St} {H:Hp} (Pv:Nat → St → Hp → Prop) (h0:Pv 0 σ H) (hl:∀ i σ H,i ≤ xs.length → Pv i σ H → SqL K H a xs)
  (hs:∀ i x σ H,xs[i]? = some x → Pv i σ H → g x σ H fun σ2 H2=>tb { D with nx:=Pv (i + 1),ct:=Pv (i + 1),bk:=D.nx } σ2 H2) (hd:∀ σ H,Pv xs.length σ H → D.nx σ H) :
  ∃ W:Nat → Nat → St → Hp → Prop,(∃ m,W 0 m σ H) ∧ ∀ i m σ H,W i m σ H →
   ((Itl K a).stop i H ∧ D.nx σ H) ∨ ((Itl K a).go i H ∧ ∃ N:St → Hp → Prop,(∀ σ' H',N σ' H' → ∃ m',m' < m ∧ W (i + 1) m' σ' H') ∧ ∀ x H',(Itl K a).yld i H x H' → g x σ H' fun σ2 H2=>tb { D with nx:=N,ct:=N,bk:=D.nx } σ2 H2):=by
 refine ⟨fun i m σ H=>m = xs.length - i ∧ i ≤ xs.length ∧ Pv i σ H,⟨xs.length,by simp,Nat.zero_le _,h0⟩,?_⟩
 rintro i m σ H ⟨rfl,hi,p⟩
 have q:=hl i σ H hi p
 by_cases hlt:i < xs.length
 ·refine .inr ⟨⟨xs,xs[i],q,by simp [hlt]⟩,Pv (i + 1),fun σ' H' p'=>⟨xs.length - (i + 1),by omega,rfl,hlt,p'⟩,fun x H' y=>?_⟩
  obtain ⟨e,y⟩:=y
  subst e
  exact hs i x σ _ (y xs q) p
 ·have e:i = xs.length:=by omega
  subst e
  exact .inl ⟨⟨xs,q,Nat.le_refl _⟩,hd σ H p⟩
theorem zdc {lo:Int} {n:Nat} {g:TG} {tb:TS} {D:Ends} {σ:St} {H:Hp} (Pv:Nat → St → Hp → Prop) (h0:Pv 0 σ H)
  (hs:∀ i σ H,i < n → Pv i σ H → g (.int (lo + i)) σ H fun σ2 H2=>tb { D with nx:=Pv (i + 1),ct:=Pv (i + 1),bk:=D.nx } σ2 H2) (hd:∀ σ H,Pv n σ H → D.nx σ H) :
  ∃ W:Nat → Nat → St → Hp → Prop,(∃ m,W 0 m σ H) ∧ ∀ i m σ H,W i m σ H →
   ((Itr lo n).stop i H ∧ D.nx σ H) ∨ ((Itr lo n).go i H ∧ ∃ N:St → Hp → Prop,(∀ σ' H',N σ' H' → ∃ m',m' < m ∧ W (i + 1) m' σ' H') ∧ ∀ x H',(Itr lo n).yld i H x H' → g x σ H' fun σ2 H2=>tb { D with nx:=N,ct:=N,bk:=D.nx } σ2 H2):=by
 refine ⟨fun i m σ H=>m = n - i ∧ i ≤ n ∧ Pv i σ H,⟨n,by simp,Nat.zero_le _,h0⟩,?_⟩
 rintro i m σ H ⟨rfl,hi,p⟩
 by_cases hlt:i < n
 ·refine .inr ⟨hlt,Pv (i + 1),fun σ' H' p'=>⟨n - (i + 1),by omega,rfl,hlt,p'⟩,fun x H' y=>?_⟩
  obtain ⟨e,y⟩:=y
  subst e y
  exact hs i σ _ hlt p
 ·have e:i = n:=by omega
  subst e
  exact .inl ⟨Nat.le_refl _,hd σ H p⟩
end L2
namespace L2
open PySem PySem.Spec PyProof.Rows
abbrev R2:=V → V → Hp → VK → Prop
def OpR (X:Cx) (f:Value → Value → Sem Value) (r:R2) : Prop :=
 ∀ (pins:List (Addr × Obj)) (s:Shared) (σ:St) (H:Hp) (x y:V) (v u:Value) (Q:VK),Inv X pins σ H s → RelV x v → RelV y u → r x y H Q →
  wpAny (model X.prog X.w) X.A (f v u) (EP X pins σ Q) X.xe s
def UnR (X:Cx) (f:Value → Sem Value) (r:V → Hp → VK → Prop) : Prop :=
 ∀ (pins:List (Addr × Obj)) (s:Shared) (σ:St) (H:Hp) (x:V) (v:Value) (Q:VK),Inv X pins σ H s → RelV x v → r x H Q →
  wpAny (model X.prog X.w) X.A (f v) (EP X pins σ Q) X.xe s
def zcZ (X:Cx) (f:Value) (r:List V → Hp → VK → Prop) : Prop :=
 ∀ (pins:List (Addr × Obj)) (s:Shared) (σ:St) (H:Hp) (xs:List V) (us:List Value) (Q:VK),Inv X pins σ H s → Vals xs us → r xs H Q →
  wpAny (model X.prog X.w) X.A (call f us) (EP X pins σ Q) X.xe s
def TruR (X:Cx) (r:V → Hp → (Bool → Hp → Prop) → Prop) : Prop :=
 ∀ (pins:List (Addr × Obj)) (s:Shared) (σ:St) (H:Hp) (x:V) (v:Value) (Q:Bool → Hp → Prop),Inv X pins σ H s → RelV x v → r x H Q →
  wpAny (model X.prog X.w) X.A (truthy v) (TP X pins σ Q) X.xe s
def tOp (r:R2) (ta tb:TE) : TE:=fun σ H Q=>ta σ H fun x H1=>tb σ H1 fun y H2=>r x y H2 Q
def tUn (r:V → Hp → VK → Prop) (ta:TE) : TE:=fun σ H Q=>ta σ H fun x H1=>r x H1 Q
def rI (C:Int → Int → Prop) (g:Int → Int → V) : R2:=fun x y H Q=>∃ i j,x = .int i ∧ y = .int j ∧ C i j ∧ Q (g i j) H
def rI0 (g:Int → Int → V) : R2:=fun x y H Q=>∃ i j,x = .int i ∧ y = .int j ∧ Q (g i j) H
def rU (g:Int → V) : V → Hp → VK → Prop:=fun x H Q=>∃ i,x = .int i ∧ Q (g i) H
section
variable {X:Cx} {a b c:Expr} {ta tb tc:TE} {pos:Pos}
theorem binT (ha:PE X a ta) (hb:PE X b tb) {pins:List (Addr × Obj)} {s:Shared} {σ:St} {H:Hp} {R:V → V → Hp → Prop} (I:Inv X pins σ H s)
  (h:ta σ H fun x H1=>tb σ H1 fun y H2=>R x y H2) {Q:Value → Shared → Prop} {f:Value → Value → Sem Value}
  (hf:∀ v u s2 x y H2,Inv X pins σ H2 s2 → RelV x v → RelV y u → R x y H2 → wpAny (model X.prog X.w) X.A (f v u) Q X.xe s2) :
  wpAny (model X.prog X.w) X.A (eval a X.env) (fun v s₁=>wpAny (model X.prog X.w) X.A (eval b X.env) (fun u s₂=>wpAny (model X.prog X.w) X.A (f v u) Q X.xe s₂) X.xe s₁) X.xe s:=by
 refine thn (ha pins s σ H _ I h) fun v s1 ⟨x,H1,I1,r1,q1⟩=>?_
 refine thn (hb pins s1 σ H1 _ I1 q1) fun u s2 ⟨y,H2,I2,r2,q2⟩=>?_
 exact hf v u s2 x y H2 I2 r1 r2 q2
theorem zoy {op:Operator} {r:R2} (ho:OpR X (binaryOp op) r) (ha:PE X a ta) (hb:PE X b tb) : PE X (.BinOp a op b pos) (tOp r ta tb):=by
 intro pins s σ H Q I h
 exact wpAny_BinOp (binT ha hb I h fun v u s2 x y H2 I2 rx ry q=>ho pins s2 σ H2 x y v u Q I2 rx ry q)
theorem zoK {op:UnaryOp} {r:V → Hp → VK → Prop} (ho:UnR X (unaryOp op) r) (ha:PE X a ta) : PE X (.UnaryOp op a pos) (tUn r ta):=by
 intro pins s σ H Q I h
 exact UnaryOp_ (thn (ha pins s σ H _ I h) fun v s1 ⟨x,H1,I1,r1,q1⟩=>ho pins s1 σ H1 x v Q I1 r1 q1)
theorem opI {f:Value → Value → Sem Value} {C:Int → Int → Prop} {g:Int → Int → Int}
  (rule:∀ (i j:Int) (t u:Tok) (s:Shared) (Q:Value → Shared → Prop) (E:Value → Shared → Prop),C i j → Q (.int (g i j) s.toks) { s with toks:=s.toks + 1 } → wpAny (model X.prog X.w) X.A (f (.int i t) (.int j u)) Q E s) :
  OpR X f (rI C fun i j=>.int (g i j)):=by
 intro pins s σ H x y v u Q I rx ry h
 obtain ⟨i,j,rfl,rfl,hc,q⟩:=h
 obtain ⟨t,rfl⟩:=rx
 obtain ⟨t',rfl⟩:=ry
 exact rule i j t t' s _ _ hc ⟨.int (g i j),H,I.tok _,⟨_,rfl⟩,q⟩
theorem opI0 {f:Value → Value → Sem Value} {g:Int → Int → Int}
  (rule:∀ (i j:Int) (t u:Tok) (s:Shared) (Q:Value → Shared → Prop) (E:Value → Shared → Prop),Q (.int (g i j) s.toks) { s with toks:=s.toks + 1 } → wpAny (model X.prog X.w) X.A (f (.int i t) (.int j u)) Q E s) :
  OpR X f (rI0 fun i j=>.int (g i j)):=by
 intro pins s σ H x y v u Q I rx ry h
 obtain ⟨i,j,rfl,rfl,q⟩:=h
 obtain ⟨t,rfl⟩:=rx
 obtain ⟨t',rfl⟩:=ry
 exact rule i j t t' s _ _ ⟨.int (g i j),H,I.tok _,⟨_,rfl⟩,q⟩
theorem opB0 {f:Value → Value → Sem Value} {g:Int → Int → Bool}
  (rule:∀ (i j:Int) (t u:Tok) (s:Shared) (Q:Value → Shared → Prop) (E:Value → Shared → Prop),Q (.bool (g i j)) s → wpAny (model X.prog X.w) X.A (f (.int i t) (.int j u)) Q E s) :
  OpR X f (rI0 fun i j=>.bl (g i j)):=by
 intro pins s σ H x y v u Q I rx ry h
 obtain ⟨i,j,rfl,rfl,q⟩:=h
 obtain ⟨t,rfl⟩:=rx
 obtain ⟨t',rfl⟩:=ry
 exact rule i j t t' s _ _ ⟨.bl (g i j),H,I,rfl,q⟩
def CDiv (i j:Int) : Prop:=0 < j ∧ j < 1073741824
def CPow (i j:Int) : Prop:=0 ≤ j ∧ j ≤ 1000000 ∧ i.natAbs < 2 ^ 64
def CMul (i j:Int) : Prop:=(-(2 ^ 64) < i ∧ i < 2 ^ 64) ∨ (-(2 ^ 64) < j ∧ j < 2 ^ 64)
theorem CMul.ok {i j:Int} (h:CMul i j) : IntMulOk i j:=by
 rcases h with ⟨h1,h2⟩ | ⟨h1,h2⟩
 ·exact .of_left (intBits_le_64 h1 h2)
 ·exact .of_right (intBits_le_64 h1 h2)
theorem znx:OpR X (binaryOp .Add) (rI0 fun i j=>.int (i + j)):=opI0 fun _ _ _ _ _ _ _ q=>add_int q
theorem znQ:OpR X (binaryOp .Sub) (rI0 fun i j=>.int (i - j)):=opI0 fun _ _ _ _ _ _ _ q=>sub_int q
theorem znz:OpR X (binaryOp .Mult) (rI CMul fun i j=>.int (i * j)):=opI fun _ _ _ _ _ _ _ hc q=>mul_int q hc.ok
theorem zmj:OpR X (binaryOp .FloorDiv) (rI CDiv fun i j=>.int (i / j)):=opI fun i j _ _ _ _ _ hc q=>by
 have h1:(0:Int) < j:=hc.1
 have h2:j < 1073741824:=hc.2
 exact floordiv_int (by omega) (by rw [Int.fdiv_eq_ediv_of_nonneg i (by omega)]; exact q) (.inl (PyProof.noPylong_small (by omega)))
theorem znZ:OpR X (binaryOp .Mod) (rI (fun _ j=>0 < j) fun i j=>.int (i % j)):=opI fun i j _ _ _ _ _ hc q=>by
 have h1:(0:Int) < j:=hc
 exact mod_int' (by omega) (by rw [Int.fmod_eq_emod_of_nonneg i (by omega)]; exact q)
theorem znC:OpR X (binaryOp .Pow) (rI CPow fun i j=>.int (i ^ j.toNat)):=opI fun _ _ _ _ _ _ _ hc q=>pow_int_small hc.1 hc.2.1 hc.2.2 q
theorem unI {f:Value → Sem Value} {g:Int → Int}
  (rule:∀ (i:Int) (t:Tok) (s:Shared) (Q:Value → Shared → Prop) (E:Value → Shared → Prop),Q (.int (g i) s.toks) { s with toks:=s.toks + 1 } → wpAny (model X.prog X.w) X.A (f (.int i t)) Q E s) :
  UnR X f (rU fun i=>.int (g i)):=by
 intro pins s σ H x v Q I rx h
 obtain ⟨i,rfl,q⟩:=h
 obtain ⟨t,rfl⟩:=rx
 exact rule i t s _ _ ⟨.int (g i),H,I.tok _,⟨_,rfl⟩,q⟩
theorem zoh:UnR X (unaryOp .USub) (rU fun i=>.int (-i)):=unI fun _ _ _ _ _ q=>neg_int q
end
def scal:V → V → Bool
 | .non,.non=>true | .non,.int _=>true | .int _,.non=>true | .non,.bl _=>true | .bl _,.non=>true | .non,.str _=>true | .str _,.non=>true
 | .int _,.int _=>true | .bl _,.bl _=>true | .str _,.str _=>true | .byt _,.byt _=>true
 | .int _,.str _=>true | .str _,.int _=>true | .bl _,.str _=>true | .str _,.bl _=>true
 | _,_=>false
def rEq:R2:=fun x y H Q=>scal x y = true ∧ Q (.bl (decide (x = y))) H
def rNe:R2:=fun x y H Q=>scal x y = true ∧ Q (.bl (!decide (x = y))) H
theorem zjA {i j:Int} : decide (V.int i = V.int j) = (i == j):=by
 rw [Bool.eq_iff_iff]
 simp
theorem zlE {i j:Bool} : decide (V.bl i = V.bl j) = (i == j):=by
 rw [Bool.eq_iff_iff]
 simp
theorem zjc {i j:Str} : decide (V.str i = V.str j) = (i == j):=by
 rw [Bool.eq_iff_iff]
 simp
theorem zjo {i j:Array UInt8} : decide (V.byt i = V.byt j) = (i.toList == j.toList):=by
 rw [Bool.eq_iff_iff]
 cases i
 cases j
 simp
section
variable {X:Cx} {a b c:Expr} {ta tb tc:TE} {pos:Pos}
theorem zaD {pins:List (Addr × Obj)} {σ:St} {H:Hp} {s:Shared} {Q:VK} {k k':Bool} (I:Inv X pins σ H s) (q:Q (.bl k) H) (e:k = k') : EP X pins σ Q (.bool k') s:=by
 subst e
 exact ⟨.bl k,H,I,rfl,q⟩
theorem zoR:OpR X (compareOp .Eq) rEq:=by
 intro pins s σ H x y v u Q I rx ry h
 obtain ⟨hs,q⟩:=h
 cases x with
 | non =>
  cases rx
  cases y with
  | non=>cases ry; exact PySem.EqNone.eq_none_none (zaD I q (by simp))
  | bl j=>cases ry; exact PySem.EqNone.eq_none_bool (zaD I q (by simp))
  | int j=>obtain ⟨t',rfl⟩:=ry; exact PySem.EqNone.eq_none_int (zaD I q (by simp))
  | str j=>obtain ⟨t',rfl⟩:=ry; exact PySem.EqNone.eq_none_str (zaD I q (by simp))
  | _=>exact absurd (show false = true from hs) Bool.false_ne_true
 | bl i =>
  cases rx
  cases y with
  | non=>cases ry; exact PySem.EqNone.eq_bool_none (zaD I q (by simp))
  | bl j=>cases ry; exact eq_bool (zaD I q zlE)
  | str j=>obtain ⟨t',rfl⟩:=ry; exact PySem.EqMixed.eq_bool_str (zaD I q (by simp))
  | _=>exact absurd (show false = true from hs) Bool.false_ne_true
 | int i =>
  obtain ⟨t,rfl⟩:=rx
  cases y with
  | non=>cases ry; exact PySem.EqNone.eq_int_none (zaD I q (by simp))
  | int j=>obtain ⟨t',rfl⟩:=ry; exact eq_int (zaD I q zjA)
  | str j=>obtain ⟨t',rfl⟩:=ry; exact PySem.EqMixed.eq_int_str (zaD I q (by simp))
  | _=>exact absurd (show false = true from hs) Bool.false_ne_true
 | str i =>
  obtain ⟨t,rfl⟩:=rx
  cases y with
  | non=>cases ry; exact PySem.EqNone.eq_str_none (zaD I q (by simp))
  | bl j=>cases ry; exact PySem.EqMixed.eq_str_bool (zaD I q (by simp))
  | int j=>obtain ⟨t',rfl⟩:=ry; exact PySem.EqMixed.eq_str_int (zaD I q (by simp))
  | str j=>obtain ⟨t',rfl⟩:=ry; exact eq_str (zaD I q zjc)
  | _=>exact absurd (show false = true from hs) Bool.false_ne_true
 | byt i =>
  obtain ⟨t,rfl⟩:=rx
  cases y with
  | byt j=>obtain ⟨t',rfl⟩:=ry; exact PySem.W.eq_bytes (zaD I q zjo)
  | _=>exact absurd (show false = true from hs) Bool.false_ne_true
 | _=>cases y <;> exact absurd (show false = true from hs) Bool.false_ne_true
theorem zor:OpR X (compareOp .NotEq) rNe:=by
 intro pins s σ H x y v u Q I rx ry h
 obtain ⟨hs,q⟩:=h
 cases x with
 | non =>
  cases rx
  cases y with
  | non=>cases ry; exact PySem.EqNone.ne_none_none (zaD I q (by simp))
  | bl j=>cases ry; exact PySem.EqNone.ne_none_bool (zaD I q (by simp))
  | int j=>obtain ⟨t',rfl⟩:=ry; exact PySem.EqNone.ne_none_int (zaD I q (by simp))
  | str j=>obtain ⟨t',rfl⟩:=ry; exact PySem.EqNone.ne_none_str (zaD I q (by simp))
  | _=>exact absurd (show false = true from hs) Bool.false_ne_true
 | bl i =>
  cases rx
  cases y with
  | non=>cases ry; exact PySem.EqNone.ne_bool_none (zaD I q (by simp))
  | bl j=>cases ry; exact ne_bool (zaD I q (congrArg not zlE))
  | str j=>obtain ⟨t',rfl⟩:=ry; exact PySem.EqMixed.ne_bool_str (zaD I q (by simp))
  | _=>exact absurd (show false = true from hs) Bool.false_ne_true
 | int i =>
  obtain ⟨t,rfl⟩:=rx
  cases y with
  | non=>cases ry; exact PySem.EqNone.ne_int_none (zaD I q (by simp))
  | int j=>obtain ⟨t',rfl⟩:=ry; exact ne_int (zaD I q (congrArg not zjA))
  | str j=>obtain ⟨t',rfl⟩:=ry; exact PySem.EqMixed.ne_int_str (zaD I q (by simp))
  | _=>exact absurd (show false = true from hs) Bool.false_ne_true
 | str i =>
  obtain ⟨t,rfl⟩:=rx
  cases y with
  | non=>cases ry; exact PySem.EqNone.ne_str_none (zaD I q (by simp))
  | bl j=>cases ry; exact PySem.EqMixed.ne_str_bool (zaD I q (by simp))
  | int j=>obtain ⟨t',rfl⟩:=ry; exact PySem.EqMixed.ne_str_int (zaD I q (by simp))
  | str j=>obtain ⟨t',rfl⟩:=ry; exact ne_str (zaD I q (congrArg not zjc))
  | _=>exact absurd (show false = true from hs) Bool.false_ne_true
 | byt i =>
  obtain ⟨t,rfl⟩:=rx
  cases y with
  | byt j=>obtain ⟨t',rfl⟩:=ry; exact PySem.W.ne_bytes (zaD I q (congrArg not zjo))
  | _=>exact absurd (show false = true from hs) Bool.false_ne_true
 | _=>cases y <;> exact absurd (show false = true from hs) Bool.false_ne_true
theorem zou:OpR X (compareOp .Lt) (rI0 fun i j=>.bl (decide (i < j))):=opB0 fun _ _ _ _ _ _ _ q=>lt_int q
theorem zoM:OpR X (compareOp .LtE) (rI0 fun i j=>.bl (decide (i ≤ j))):=opB0 fun _ _ _ _ _ _ _ q=>le_int q
theorem zoE:OpR X (compareOp .Gt) (rI0 fun i j=>.bl (decide (j < i))):=opB0 fun _ _ _ _ _ _ _ q=>gt_int q
theorem zoC:OpR X (compareOp .GtE) (rI0 fun i j=>.bl (decide (j ≤ i))):=opB0 fun _ _ _ _ _ _ _ q=>ge_int q
theorem zlc (b:Expr) {op:CmpOp} (h:op ≠ .In:=by decide) (h2:op ≠ .NotIn:=by decide) : behindInMarks op b = false:=by
 have e1:(op == CmpOp.In) = false:=by cases op <;> first | rfl | exact absurd rfl h
 have e2:(op == CmpOp.NotIn) = false:=by cases op <;> first | rfl | exact absurd rfl h2
 cases b <;> simp [behindInMarks,e1,e2]
theorem zlX {op:CmpOp} {r:R2} (ho:OpR X (compareOp op) r) (ha:PE X a ta) (hb:PE X b tb) (hm:behindInMarks op b = false) : PE X (.Compare a [op] [b] pos) (tOp r ta tb):=by
 intro pins s σ H Q I h
 exact wpAny_Compare1 (binT ha hb I h fun v u s2 x y H2 I2 rx ry q=>ho pins s2 σ H2 x y v u Q I2 rx ry q) hm
def zhc (t:TE) : TT:=fun σ H Q=>t σ H fun x H'=>∃ k,x = .bl k ∧ Q k H'
theorem ziI {op:CmpOp} {r:R2} (ho:OpR X (compareOp op) r) (ha:PE X a ta) (hb:PE X b tb) (hm:behindInMarks op b = false) : PT X (.Compare a [op] [b] pos) (zhc (tOp r ta tb)):=by
 intro pins s σ H Q I h
 refine wpAny_isTrue_Compare1 (thn (ha pins s σ H _ I h) fun v s1 ⟨x,H1,I1,r1,q1⟩=>thn (hb pins s1 σ H1 _ I1 q1) fun u s2 ⟨y,H2,I2,r2,q2⟩ =>
  thn (ho pins s2 σ H2 x y v u _ I2 r1 r2 q2) fun c s3 ⟨z,H3,I3,r3,k,e,q3⟩=>?_) hm
 subst e
 cases r3
 exact wpAny_truthy_bool ⟨H3,I3,q3⟩
def TruV (K:PySem.W.Frag) (x:V) (H:Hp) (k:Bool) : Prop :=
 match x with
 | .non=>k = false
 | .bl b=>k = b
 | .int i=>k = (i != 0)
 | .str y=>y.length ≤ sizeLine ∧ k = ((y.length:Int) != 0)
 | .byt y=>y.size ≤ sizeLine ∧ k = ((y.size:Int) != 0)
 | .ref p=>(∃ xs,SqL K H p xs ∧ k = !xs.isEmpty) ∨ (∃ xs,SqT K H p xs ∧ k = !xs.isEmpty) ∨ ∃ kvs,H p = some (.dK kvs) ∧ k = !kvs.isEmpty
 | _=>False
theorem zh0 {κ:Type} {kvs:List (κ × V)} {vs:List (κ × Value)} (r:KV kvs vs) : (!vs.isEmpty) = !kvs.isEmpty:=by
 cases r <;> rfl
theorem zfa {xs:List V} {its:List Value} (r:Vals xs its) : (!its.toArray.isEmpty) = !xs.isEmpty:=by
 cases r <;> simp
theorem zek:(sizeLine:Nat) < 2 ^ 63:=by rw [sizeLine_eq]; decide
theorem zod:TruR X (fun x H Q=>∃ k,TruV X.K x H k ∧ Q k H):=by
 intro pins s σ H x v Q I rx h
 obtain ⟨k,e,q⟩:=h
 have hl:=zek
 have hs:sizeLine = 16777216:=sizeLine_eq
 cases x with
 | non =>
  cases rx
  have e':k = false:=e
  subst e'
  exact truthy_none ⟨H,I,q⟩
 | bl b =>
  cases rx
  have e':k = b:=e
  subst e'
  exact wpAny_truthy_bool ⟨H,I,q⟩
 | int i =>
  obtain ⟨t,rfl⟩:=rx
  have e':k = (i != 0):=e
  subst e'
  exact PySem.P.truthy_int ⟨H,I,q⟩
 | str y =>
  obtain ⟨t,rfl⟩:=rx
  obtain ⟨hy,e'⟩ : y.length ≤ sizeLine ∧ k = ((y.length:Int) != 0):=e
  subst e'
  exact PySem.P.truthy_str (by omega) ⟨H,I.tok _,q⟩
 | byt y =>
  obtain ⟨t,rfl⟩:=rx
  obtain ⟨hy,e'⟩ : y.size ≤ sizeLine ∧ k = ((y.size:Int) != 0):=e
  subst e'
  exact PySem.W.truthy_bytes (by omega) ⟨H,I.tok _,q⟩
 | ref p =>
  cases rx
  have e':(∃ xs,SqL X.K H p xs ∧ k = !xs.isEmpty) ∨ (∃ xs,SqT X.K H p xs ∧ k = !xs.isEmpty) ∨ ∃ kvs,H p = some (.dK kvs) ∧ k = !kvs.isEmpty:=e
  rcases e' with ⟨xs,hx,e'⟩ | ⟨xs,hx,e'⟩ | ⟨kvs,hx,e'⟩
  ·subst e'
   obtain ⟨its,r,pl,hz⟩:=I.list hx
   have hlen:=r.length
   exact wpAny_truthy_list pl.isList (by simp only [List.size_toArray]; omega) ⟨H,I.tok _,by rw [zfa r]; exact q⟩
  ·subst e'
   obtain ⟨its,r,pl,hz⟩:=I.tuple hx
   have hlen:=r.length
   exact truthy_tuple pl (by simp only [List.size_toArray]; omega) ⟨H,I.tok _,by rw [zfa r]; exact q⟩
  ·subst e'
   obtain ⟨hz,hS,vs,r,m⟩ : kvs.length ≤ sizeLine ∧ (p == sysModules) = false ∧ ∃ vs,KV kvs vs ∧ s.heap.DictOf (za3 X.prog X.w) p vs:=I.hok p _ hx
   have hlen:kvs.length = vs.length:=Paired.length r
   exact wpAny_truthy_dict hS m (by omega) ⟨H,I.tok _,by rw [zh0 r]; exact q⟩
 | _=>exact (show False from e).elim
theorem zkC (ha:PE X a ta) (he:∀ whole,isTrue a X.env whole = (do let v ← whole; standAt a.pos; holding [v] (truthy v))) :
  PT X a (fun σ H Q=>ta σ H fun x H'=>∃ k,TruV X.K x H' k ∧ Q k H'):=by
 intro pins s σ H Q I h
 exact isTrue_plain (thn (ha pins s σ H _ I h) fun v s1 ⟨x,H1,I1,r1,q1⟩=>zod pins s1 σ H1 x v Q I1 r1 q1) (he _)
theorem zhQ:OpR X (binaryOp .Add) (fun x y H Q=>∃ i j,x = .str i ∧ y = .str j ∧ i.length + j.length ≤ sizeLine ∧ Q (.str (i ++ j)) H):=by
 intro pins s σ H x y v u Q I rx ry h
 obtain ⟨i,j,rfl,rfl,hz,q⟩:=h
 obtain ⟨t,rfl⟩:=rx
 obtain ⟨t',rfl⟩:=ry
 exact add_str (fun t' tk=>⟨.str (i ++ j),H,I.tok _,⟨_,rfl⟩,q⟩) hz
theorem vals1 {x:V} {us:List Value} (r:Vals [x] us) : ∃ u,us = [u] ∧ RelV x u:=by
 cases r with
 | cons r1 r2=>cases r2; exact ⟨_,rfl,r1⟩
theorem vals2 {x y:V} {us:List Value} (r:Vals [x,y] us) : ∃ u w',us = [u,w'] ∧ RelV x u ∧ RelV y w':=by
 cases r with
 | cons r1 r2 =>
  cases r2 with
  | cons r3 r4=>cases r4; exact ⟨_,_,rfl,r1,r3⟩
theorem zjr (hc:X.calm = true) : zcZ X (.builtin "max") (fun xs H Q=>∃ i j,xs = [.int i,.int j] ∧ Q (.int (if j > i then j else i)) H):=by
 intro pins s σ H xs us Q I r h
 obtain ⟨i,j,rfl,q⟩:=h
 obtain ⟨u,w',rfl,⟨t,rfl⟩,⟨t',rfl⟩⟩:=vals2 r
 refine max_two_ints (I.ok.hd hc) fun h' tk k=>⟨_,H,I.kept k,?_,q⟩
 by_cases hj:j > i
 ·rw [if_pos hj,if_pos hj]; exact ⟨_,rfl⟩
 ·rw [if_neg hj,if_neg hj]; exact ⟨_,rfl⟩
end
end L2
namespace L2
open PySem PySem.Spec PyProof.Rows
structure ObjM (h:Heap) (x dx C:Addr) (mA:Str → Option Value) : Prop where
 obj:h.get? x = some (PySem.W.instObj C dx)
 ns:h.Ns1 dx mA
 ne:dx ≠ x
theorem zjE {h:Heap} {dx:Addr} {mA:Str → Option Value} (n:h.Ns1 dx mA) : ∃ od,h.get? dx = some od ∧ ∀ name,PySem.W.lookIn name od = some (mA name):=by
 obtain ⟨o,es,ep,ho,hd,hk,_,hm⟩:=n
 refine ⟨o,ho,fun name=>?_⟩
 have e:=hm name
 unfold nsFind findBy at e
 rw [← Array.find?_toList] at e
 unfold PySem.W.lookIn
 rw [hd]
 dsimp only
 split
 ·rename_i y q
  rw [q] at e
  exact congrArg some e
 ·rename_i q
  rw [q] at e
  have a:es.toList.any (·.refKey) = false:=by
   rw [List.any_eq_false]
   intro y hy
   obtain ⟨z,t,hkey⟩:=hk y (Array.mem_toList_iff.mp hy)
   simp [DictEntry.refKey,hkey]
  have a' : ¬ es.toList.any (·.refKey) = true:=by rw [a]; exact Bool.false_ne_true
  rw [if_neg a']
  exact congrArg some e
theorem ObjM.look {h:Heap} {x dx C:Addr} {mA:Str → Option Value} (I:ObjM h x dx C mA) : ∃ od,PySem.W.InstAt h x (PySem.W.instObj C dx) C (some od) ∧ ∀ name,PySem.W.lookIn name od = some (mA name) :=
 let ⟨od,ho,hl⟩:=zjE I.ns
 ⟨od,⟨I.obj,rfl,rfl,ho⟩,hl⟩
section
variable {prog:Program} {w:World} {A:Around} {E:Value → Shared → Prop} {s:Shared} {K:PySem.W.Frag} {x dx C f:Addr} {mA:Str → Option Value} {name:Str} {v:Value}
theorem get_map {expr:Bool} {Q:Value → Shared → Prop} (X:K.In s.heap) (I:ObjM s.heap x dx C mA) (hg:PySem.W.plainGet K C name = true) (hh:PySem.W.hasDictIn K C = true)
  (ha:PySem.W.findIn K (.ref C) name = some none) (hv:mA name = some v) (hv':PySem.W.handedIn v = true) (h:Q v { s with toks:=s.toks + 1 }) :
  wpAny (model prog w) A (getAttr (.ref x) name expr) Q E s:=by
 obtain ⟨od,J,hl⟩:=I.look
 exact PySem.W.get_value X J (PySem.W.plainGet_of hg).1 (PySem.W.findObj_own hh ha rfl (by rw [hl,hv])) hv' h
theorem zku {pl:Sem Bool} {Q:Value × List Value → Shared → Prop} (X:K.In s.heap) (I:ObjM s.heap x dx C mA) (hg:PySem.W.plainGet K C name = true)
  (hf:PySem.W.findIn K (.ref C) name = some (some (.ref f))) (ht:PySem.W.isFn K (.ref f) = true) (hv:mA name = none) (h:Q (.ref f,[.ref x]) s) :
  wpAny (model prog w) A (getMethod (.ref x) name pl) Q E s:=by
 obtain ⟨od,J,hl⟩:=I.look
 exact PySem.W.method_fn X J (PySem.W.plainGet_of hg).1 (PySem.W.plainGet_of hg).2 hf (beq_iff_eq.mp ht) (by show (PySem.W.lookIn name od).map (·.isSome) = some false; rw [hl,hv]; rfl) h
theorem zmz {ns:List Str} {Q:Unit → Shared → Prop} (X:K.In s.heap) (I:ObjM s.heap x dx C mA)
  (hs:PySem.W.findIn K (.ref C) "__setattr__" = some (some (.builtin "object.__setattr__"))) (hp:PySem.W.plainOver K C = true) (ht:PySem.W.takerIn K C name = some none) (hh:PySem.W.hasDictIn K C = true)
  (hw:PySem.Within mA ns) (hsz:ns.length ≤ sizeLine)
  (h:∀ h',ObjM h' x dx C (fun y=>if y = name then some v else mA y) → Heap.SameBut dx s.heap h' → Q () { s with heap:=h',toks:=s.toks + 2 }) :
  wpAny (model prog w) A (setAttr (.ref x) name v) Q E s:=by
 obtain ⟨od,J,hl⟩:=I.look
 refine PySem.W.set_plain X J hs (PySem.W.osa_open (s:={ s with toks:=s.toks + 1 }) (r:=none) X J hp ht fun b=>?_)
 obtain ⟨cd,hc,hd'⟩:=PySem.W.any_some hh
 have hx:s.heap.get? x = some ⟨.ref C,some dx,.plain,#[]⟩:=I.obj
 refine wpAny_bind (wpAny_pure (wpAny_bind (wpAny_bind (wpAny_loadPart hx (wpAny_bind (PySem.W.Looks.here (s:={ s with toks:=s.toks + 1 }) (PySem.W.looks_clsIn X hc) ?_))))))
 rw [hd']
 refine wpAny_pure (a:=some dx) (wpAny_bind (wpAny_pure (wpAny_bind ?_)))
 refine wpAny_nsSet1 (s:={ s with toks:=s.toks + 1 }) I.ns fun h' hn2 hs2=>?_
 obtain ⟨oD,esD,epD,hoD,hdD,hcD⟩:=hn2.count (PySem.Within.cons name v hw)
 refine wpAny_bind (wpAny_lookBehind hoD (by rw [hdD]; exact pastItsLine_dict (Nat.le_trans hcD (by rw [List.length_cons]; omega))) ?_)
 exact wpAny_pure (h _ ⟨(hs2.2 _ (Ne.symm I.ne)).trans I.obj,hn2,I.ne⟩ hs2)
theorem zkG {R:Result → Shared → Prop} {vs:List Value} {kw:List (Str × Value)} (X:K.In s.heap) (hm:PySem.W.makesIn K C = true)
  (hi:PySem.W.findIn K (.ref C) "__init__" = some (some (.ref f))) (hf:PySem.W.typeIn K (.ref f) = some (.type "function"))
  (h:codeAny (model prog w) (A.under (.builtin "type.__call__" ⟨.ref C :: vs,kw⟩)) (.call (.ref f) ⟨.ref (s.heap.objs.size + 1) :: vs,kw⟩) (PySem.W.InitBack (s.heap.objs.size + 1) R)
   { s with heap:=(s.heap.push PySem.W.emptyDict).push (PySem.W.instObj C s.heap.objs.size) }) :
  codeAny (model prog w) A (.call (.ref C) ⟨vs,kw⟩) R s:=by
 obtain ⟨hh,g,d,t,os⟩:=s
 exact PySem.W.make_core (PySem.W.makes_of X hm) (PySem.W.looks_findIn X hi) (fun self=>PySem.W.bind_fn X self hf) (.inl rfl) h
end
def putF (f:Str) (v:V) : List (Str × V) → List (Str × V)
 | []=>[(f,v)]
 | (g,x) :: r=>if g = f then (g,v) :: r else (g,x) :: putF f v r
theorem zd0 (f g:Str) (v:V) : ∀ fs:List (Str × V),(putF f v fs).lookup g = if g = f then some v else fs.lookup g
 | [] => by
  show List.lookup g [(f,v)] = _
  by_cases h:g = f
  ·have hb:(g == f) = true:=beq_iff_eq.mpr h
   simp only [List.lookup,hb,if_pos h]
  ·have hb:(g == f) = false:=beq_eq_false_iff_ne.mpr h
   simp only [List.lookup,hb,if_neg h]
 | (k, x) :: r => by
  have ih:=zd0 f g v r
  rw [show putF f v ((k,x) :: r) = (if k = f then (k,v) :: r else (k,x) :: putF f v r) from rfl]
  by_cases hk:k = f
  ·rw [if_pos hk]
   by_cases h:g = k
   ·have hb:(g == k) = true:=beq_iff_eq.mpr h
    simp only [List.lookup,hb,if_pos (h.trans hk)]
   ·have hb:(g == k) = false:=beq_eq_false_iff_ne.mpr h
    simp only [List.lookup,hb,if_neg (fun e:g = f=>h (e.trans hk.symm))]
  ·rw [if_neg hk]
   by_cases h:g = k
   ·have hb:(g == k) = true:=beq_iff_eq.mpr h
    simp only [List.lookup,hb,if_neg (fun e:g = f=>hk (h.symm.trans e))]
   ·have hb:(g == k) = false:=beq_eq_false_iff_ne.mpr h
    simp only [List.lookup,hb]
    exact ih
theorem zdY (f:Str) (v:V) : ∀ fs:List (Str × V),f ∈ (putF f v fs).map (·.1) ∧ ∀ g,g ∈ fs.map (·.1) → g ∈ (putF f v fs).map (·.1)
 | []=>⟨by simp [putF],fun g h=>by simp at h⟩
 | (k, x) :: r => by
  obtain ⟨i1,i2⟩:=zdY f v r
  rw [show putF f v ((k,x) :: r) = (if k = f then (k,v) :: r else (k,x) :: putF f v r) from rfl]
  by_cases hk:k = f
  ·rw [if_pos hk]
   subst hk
   exact ⟨by simp,fun g h=>by simpa using h⟩
  ·rw [if_neg hk]
   refine ⟨?_,fun g h=>?_⟩
   ·rw [List.map_cons]
    exact List.mem_cons_of_mem _ i1
   ·rw [List.map_cons] at h ⊢
    rcases List.mem_cons.mp h with e | e
    ·exact List.mem_cons.mpr (.inl e)
    ·exact List.mem_cons_of_mem _ (i2 g e)
theorem zdX (f:Str) (v:V) : ∀ fs:List (Str × V),(putF f v fs).length ≤ fs.length + 1
 | []=>by simp [putF]
 | (k,x) :: r=>by
  have ih:=zdX f v r
  rw [show putF f v ((k,x) :: r) = (if k = f then (k,v) :: r else (k,x) :: putF f v r) from rfl]
  by_cases hk:k = f
  ·rw [if_pos hk,List.length_cons,List.length_cons]; omega
  ·rw [if_neg hk,List.length_cons,List.length_cons]; omega
theorem RelO.some_of {v:V} {o:Option Value} (r:RelO (some v) o) : ∃ u,o = some u ∧ RelV v u:=by
 cases o with
 | none=>exact (show False from r).elim
 | some u=>exact ⟨u,rfl,r⟩
theorem RelO.none_of {o:Option Value} (r:RelO none o) : o = none:=by
 cases o with
 | none=>rfl
 | some u=>exact (show False from r).elim
theorem zjN {v:V} {u:Value} (r:RelV v u) : PySem.W.handedIn u = true:=by
 cases v with
 | non=>cases (show u = Value.none from r); rfl
 | bl b=>cases (show u = Value.bool b from r); rfl
 | int i=>obtain ⟨t,e⟩:=(show ∃ t,u = Value.int i t from r); cases e; rfl
 | str x=>obtain ⟨t,e⟩:=(show ∃ t,u = Value.str x t from r); cases e; rfl
 | byt b=>obtain ⟨t,e⟩:=(show ∃ t,u = Value.bytes b t from r); cases e; rfl
 | flt b=>obtain ⟨t,e⟩:=(show ∃ t,u = Value.float b t from r); cases e; rfl
 | ref a=>cases (show u = Value.ref a from r); rfl
 | ty n=>cases (show u = Value.type n from r); rfl
section
variable {P:Program} {w:World} {H H':Hp} {h h':Heap} {a C dx:Addr} {fs fs':List (Str × V)}
theorem zfs (hok:HOk P w H h) (e:H a = some (.ins C dx fs)) : ∃ mA,ObjM h a dx C mA ∧ (∀ f,RelO (fs.lookup f) (mA f)) ∧ PySem.Within mA (fs.map (·.1)) ∧ fs.length ≤ 1000 ∧ H dx = some (.own a):=by
 obtain ⟨d,z,ne,ob,mA,n,r,q⟩:=(show ObjOk P w H h a (.ins C dx fs) from hok a _ e)
 exact ⟨mA,⟨ob,n,ne⟩,r,q,z,d⟩
end
structure Cls (K:PySem.W.Frag) (C:Addr) : Prop where
 pg:PySem.W.plainGet K C Str.empty = true
 hd:PySem.W.hasDictIn K C = true
 po:PySem.W.plainOver K C = true
 sa:PySem.W.findIn K (.ref C) "__setattr__" = some (some (.builtin "object.__setattr__"))
theorem Cls.get {K:PySem.W.Frag} {C:Addr} (c:Cls K C) (f:Str) : PySem.W.plainGet K C f = true:=c.pg
def NoAttr (K:PySem.W.Frag) (C:Addr) (f:Str) : Prop:=PySem.W.findIn K (.ref C) f = some none
theorem NoAttr.taker {K:PySem.W.Frag} {C:Addr} {f:Str} (n:NoAttr K C f) : PySem.W.takerIn K C f = some none:=by
 unfold PySem.W.takerIn
 rw [show PySem.W.findIn K (.ref C) f = some none from n]
 rfl
structure Meth (K:PySem.W.Frag) (C:Addr) (m:Str) (f:Addr) : Prop where
 at_:PySem.W.findIn K (.ref C) m = some (some (.ref f))
 fn:PySem.W.isFn K (.ref f) = true
 kp:PySem.W.keepIn K (.ref f) = true
section
variable {X:Cx} {pins:List (Addr × Obj)} {σ:St} {H:Hp} {s:Shared} {a C dx:Addr} {fs:List (Str × V)} {f:Str} {v:V} {A:Around} {E:Value → Shared → Prop}
theorem zhY {b:Bool} {Q:Value → Shared → Prop} (I:Inv X pins σ H s) (e:H a = some (.ins C dx fs)) (c:Cls X.K C) (n:NoAttr X.K C f) (l:fs.lookup f = some v)
  (h:∀ u s',Inv X pins σ H s' → RelV v u → Q u s') : wpAny (model X.prog X.w) A (getAttr (.ref a) f b) Q E s:=by
 obtain ⟨mA,O,r,_,_,_⟩:=zfs I.hok e
 obtain ⟨u,hu,ru⟩:=RelO.some_of (v:=v) (o:=mA f) (by rw [← l]; exact r f)
 exact get_map I.kIn O (c.get f) c.hd n hu (zjN ru) (h u _ (I.tok _) ru)
theorem zdu {m:Str} {g:Addr} {pl:Sem Bool} {Q:Value × List Value → Shared → Prop} (I:Inv X pins σ H s) (e:H a = some (.ins C dx fs)) (c:Cls X.K C) (k:Meth X.K C m g) (l:fs.lookup m = none)
  (h:Q (.ref g,[.ref a]) s) : wpAny (model X.prog X.w) A (getMethod (.ref a) m pl) Q E s:=by
 obtain ⟨mA,O,r,_,_,_⟩:=zfs I.hok e
 have hn:mA m = none:=RelO.none_of (by rw [← l]; exact r m)
 exact zku I.kIn O (c.get m) k.at_ k.fn hn h
theorem zhN {y:V} {u:Value} {Q:Unit → Shared → Prop} (I:Inv X pins σ H s) (e:H a = some (.ins C dx fs)) (c:Cls X.K C) (n:NoAttr X.K C f) (hl:fs.length < 1000) (ry:RelV y u)
  (h:∀ s',Inv X pins σ (upd H a (.ins C dx (putF f y fs))) s' → Q () s') : wpAny (model X.prog X.w) A (setAttr (.ref a) f u) Q E s:=by
 obtain ⟨mA,O,r,wi,_,ho⟩:=zfs I.hok e
 have hz:(fs.map (·.1)).length ≤ sizeLine:=by rw [List.length_map,sizeLine_eq]; omega
 refine zmz I.kIn O c.sa c.po n.taker c.hd wi hz fun h' O' sb=>h _ ?_
 have hd:∃ o,h'.get? dx = some o:=let ⟨o,_,_,e',_⟩:=O'.ns; ⟨o,e'⟩
 refine I.write (x:=a) (e:=dx) (by rw [e]; exact True.intro) (.inr ho) (fun b q hb z=>(sb.2 b hb).trans z) hd ?_
 refine ⟨by rw [zai O.ne]; exact ho,?_,O.ne,O'.obj,_,O'.ns,fun g=>?_,fun g hg=>?_⟩
 ·have:=zdX f y fs; omega
 ·show RelO ((putF f y fs).lookup g) (if g = f then some u else mA g)
  rw [zd0]
  by_cases q:g = f
  ·rw [if_pos q,if_pos q]; exact ry
  ·rw [if_neg q,if_neg q]; exact r g
 ·by_cases q:g = f
  ·rw [q]; exact (zdY f y fs).1
  ·refine (zdY f y fs).2 g (wi g fun z=>hg ?_)
   show (if g = f then some u else mA g) = none
   rw [if_neg q]; exact z
theorem Inv.made (I:Inv X pins σ H s) : Inv X pins σ (upd (upd H s.heap.objs.size (.own (s.heap.objs.size + 1))) (s.heap.objs.size + 1) (.ins C s.heap.objs.size []))
  { s with heap:=(s.heap.push PySem.W.emptyDict).push (PySem.W.instObj C s.heap.objs.size) }:=by
 have e1:(s.heap.push PySem.W.emptyDict).get? s.heap.objs.size = some PySem.W.emptyDict:=Heap.get?_push_size s.heap rfl
 have e2:((s.heap.push PySem.W.emptyDict).push (PySem.W.instObj C s.heap.objs.size)).get? (s.heap.objs.size + 1) = some (PySem.W.instObj C s.heap.objs.size):=by
  have:=Heap.get?_push_size (s.heap.push PySem.W.emptyDict) (o:=PySem.W.instObj C s.heap.objs.size) rfl
  rwa [Heap.size_push] at this
 have e3:(s.heap.push PySem.W.emptyDict).Ns s.heap.objs.size (fun _=>none):=⟨PySem.W.emptyDict,#[],_,e1,rfl,(fun e he=>absurd he (by simp)),fun _=>rfl⟩
 have I1:=I.laid (a:=s.heap.objs.size) (o:=.own (s.heap.objs.size + 1)) (h':=s.heap.push PySem.W.emptyDict) (t':=s.toks) (fun b u q=>Heap.get?_push_of_some _ q) (Nat.le_refl _) ⟨_,e1⟩
 refine I1.laid (a:=s.heap.objs.size + 1) (o:=.ins C s.heap.objs.size []) (t':=s.toks) (fun b u q=>Heap.get?_push_of_some _ q) (Nat.le_of_eq (Heap.size_push _ _)) ?_
 have ne:s.heap.objs.size ≠ s.heap.objs.size + 1:=Nat.ne_of_lt (Nat.lt_succ_self _)
 refine ⟨by rw [zai ne,zaa],Nat.zero_le _,ne,e2,fun _=>none,(Heap.Ns1.of_empty e3).at fun o q=>Heap.get?_push_of_some _ q,fun _=>True.intro,fun y hy=>absurd rfl hy⟩
theorem zml {prog:Program} {w:World} {env:Env} {e:Expr} {f:Str} {pos:Pos} {s:Shared} {Q:Value → Shared → Prop} (hb:attributeBase e f env (eval e env) = eval e env)
  (h:wpAny (model prog w) A (eval e env) (fun o s₁=>wpAny (model prog w) A (getAttr o f true) Q E s₁) E s) : wpAny (model prog w) A (eval (.Attribute e f pos) env) Q E s :=
 Attribute_any_ h (by rw [arm_eval_Attribute,hb])
end
def tFld (K:PySem.W.Frag) (ta:TE) (f:Str) : TE:=fun σ H Q=>ta σ H fun x H1=>∃ a C dx fs v,x = .ref a ∧ H1 a = some (.ins C dx fs) ∧ Cls K C ∧ NoAttr K C f ∧ fs.lookup f = some v ∧ Q v H1
def sFld (K:PySem.W.Frag) (ta tv:TE) (f:Str) : TS:=fun D σ H=>tv σ H fun y H1=>ta σ H1 fun x H2=>∃ a C dx fs,x = .ref a ∧ H2 a = some (.ins C dx fs) ∧ Cls K C ∧ NoAttr K C f ∧ fs.length < 1000 ∧
 D.nx σ (upd H2 a (.ins C dx (putF f y fs)))
section
variable {X:Cx} {o e value:Expr} {f:Str} {pos pos' tpos:Pos} {ta tv:TE}
theorem zob (he:PE X e ta) (hb:attributeBase e f X.env (eval e X.env) = eval e X.env) : PE X (.Attribute e f pos) (tFld X.K ta f):=by
 intro pins s σ H Q I h
 refine zml hb (thn (he pins s σ H _ I h) fun u s1 ⟨x,H1,I1,rx,a,C,dx,fs,v,ex,ea,c,n,l,q⟩=>?_)
 subst ex
 obtain rfl:u = Value.ref a:=rx
 exact zhY I1 ea c n l fun u' s2 I2 ru=>⟨v,H1,I2,ru,q⟩
theorem znR (ha:PE X o ta) (hv:PE X value tv) (hs:swapsWith value (some (.Attribute o f pos')) pos.line X.env = pure false) : PS X (.Assign [.Attribute o f pos'] value pos) (sFld X.K ta tv f):=by
 intro pins s σ H D I h
 refine plainObj_wpAny_Assign_Attribute (thn (hv pins s σ H _ I h) fun u s1 ⟨y,H1,I1,ry,q⟩=>thn (ha pins s1 σ H1 _ I1 q) fun ov s2 ⟨x,H2,I2,rx,a,C,dx,fs,ex,ea,c,n,l,q2⟩=>?_) hs
 subst ex
 obtain rfl:ov = Value.ref a:=rx
 exact zhN I2 ea c n l ry fun s3 I3=>⟨σ,_,I3,q2⟩
theorem zma {pl:Sem Bool} {m:Str} {apos:Pos} {args:List Expr} {pins:List (Addr × Obj)} {s:Shared} {σ:St} {H:Hp} {Q:Value → Shared → Prop} {te:TE} (he:PE X e te) (I:Inv X pins σ H s)
  (h:te σ H fun x H1=>∃ a C dx fs g,x = .ref a ∧ H1 a = some (.ins C dx fs) ∧ Cls X.K C ∧ Meth X.K C m g ∧ fs.lookup m = none ∧
   ∀ s1,Inv X pins σ H1 s1 → wpAny (model X.prog X.w) X.A (callWith pos (.ref g) [.ref a] (backTo pos (starEach args X.env)) (backToKw pos (keywordEach [] X.env))) Q X.xe s1)
  (ht:eval (.Call (.Attribute e m apos) args [] pos) X.env = (do
   let ov ← eval e X.env
   standAt apos.atName
   let (f,first) ← holding [ov] (getMethod ov m pl)
   callWith pos f first (backTo pos (starEach args X.env)) (backToKw pos (keywordEach [] X.env)))) :
  wpAny (model X.prog X.w) X.A (eval (.Call (.Attribute e m apos) args [] pos) X.env) Q X.xe s:=by
 refine PySem.W.methodCall_KW (pl:=pl) (thn (he pins s σ H _ I h) fun u s1 ⟨x,H1,I1,rx,a,C,dx,fs,g,ex,ea,c,k,l,q⟩=>?_) ht
 subst ex
 obtain rfl:u = Value.ref a:=rx
 exact zdu I1 ea c k l (q s1 I1)
end
section
variable {X:Cx} {pins:List (Addr × Obj)} {σ:St} {H:Hp} {s:Shared} {A:Around} {E:Value → Shared → Prop} {Q:Value → Shared → Prop} {c:Value} {b:Bool}
inductive TyOf (K:PySem.W.Frag) (H:Hp) : V → Value → Prop where
 | non:TyOf K H .non (.type "NoneType")
 | bl (x:Bool) : TyOf K H (.bl x) (.type "bool")
 | int (i:Int) : TyOf K H (.int i) (.type "int")
 | str (x:Str) : TyOf K H (.str x) (.type "str")
 | flt (x:UInt64) : TyOf K H (.flt x) (.type "float")
 | lst {a:Addr} {xs:List V} (e:H a = some (.lst xs)) : TyOf K H (.ref a) (.type "list")
 | frz {a:Addr} {o:Obj} {xs:List V} (e:H a = some (.frz o (.lst xs))) : TyOf K H (.ref a) (.type "list")
 | tup {a:Addr} {xs:List V} (e:H a = some (.tup xs)) : TyOf K H (.ref a) (.type "tuple")
 | dK {a:Addr} {kvs:List (Key × V)} (e:H a = some (.dK kvs)) : TyOf K H (.ref a) (.type "dict")
 | dT {a:Addr} {kvs:List (List Key × V)} (e:H a = some (.dT kvs)) : TyOf K H (.ref a) (.type "dict")
 | ins {a C dx : Addr} {fs : List (Str × V)} (e : H a = some (.ins C dx fs)) (cl : Cls K C) (ha : PySem.W.findIn K (.ref C) "__class__" = some (some (.builtin "object.__class__")))
   (hn:PySem.W.specialIn K (.builtin "object.__class__") "__get__" = some (some (.builtin "getset_descriptor.__get__"))) (htk:PySem.W.takesIn K (.builtin "object.__class__") = some true)
   (hm:PySem.W.mroIn K C (.type "object") = some true) : TyOf K H (.ref a) (.ref C)
theorem zjH {x:V} {u t:Value} (I:Inv X pins σ H s) (rx:RelV x u) (ty:TyOf X.K H x t) (e:PySem.W.kitOne X.K t c = some b) (h:∀ tk,Q (.bool b) { s with toks:=tk }) :
  wpAny (model X.prog X.w) A (call (.builtin "isinstance") [u,c]) Q E s:=by
 cases ty with
 | non=>cases (show u = Value.none from rx); exact PySem.W.kia_one PySem.W.kitx_none I.kIn True.intro e (fun z=>nomatch z) h
 | bl y=>cases (show u = Value.bool y from rx); exact PySem.W.kia_one PySem.W.kitx_bool I.kIn True.intro e (fun z=>nomatch z) h
 | int i=>obtain ⟨t,q⟩:=(show ∃ t,u = Value.int i t from rx); cases q; exact PySem.W.kia_one PySem.W.kitx_int I.kIn True.intro e (fun z=>nomatch z) h
 | str y=>obtain ⟨t,q⟩:=(show ∃ t,u = Value.str y t from rx); cases q; exact PySem.W.kia_one PySem.W.kitx_str I.kIn True.intro e (fun z=>nomatch z) h
 | flt y=>obtain ⟨t,q⟩:=(show ∃ t,u = Value.float y t from rx); cases q; exact PySem.W.kia_one PySem.W.kitx_float I.kIn True.intro e (fun z=>nomatch z) h
 | @lst a xs ea =>
  cases (show u = Value.ref a from rx)
  obtain ⟨_,_,n,_,h1⟩:=(show ObjOk X.prog X.w H s.heap a (.lst xs) from I.hok a _ ea)
  exact PySem.W.kia_one PySem.W.kitx_list I.kIn ⟨_,h1,rfl⟩ e (fun z=>nomatch z) h
 | @frz a ob xs ea =>
  cases (show u = Value.ref a from rx)
  obtain ⟨_,_,_,n,_,h1⟩:=(show ObjOk X.prog X.w H s.heap a (.frz ob (.lst xs)) from I.hok a _ ea)
  exact PySem.W.kia_one PySem.W.kitx_list I.kIn ⟨_,h1,rfl⟩ e (fun z=>nomatch z) h
 | @tup a xs ea =>
  cases (show u = Value.ref a from rx)
  obtain ⟨_,_,_,p⟩:=(show ObjOk X.prog X.w H s.heap a (.tup xs) from I.hok a _ ea)
  obtain ⟨o,h1,h2,_⟩:=p
  exact PySem.W.kia_one PySem.W.kitx_tuple I.kIn ⟨o,h1,h2⟩ e (fun z=>nomatch z) h
 | @dK a kvs ea =>
  cases (show u = Value.ref a from rx)
  obtain ⟨_,_,vs,_,p⟩:=(show ObjOk X.prog X.w H s.heap a (.dK kvs) from I.hok a _ ea)
  obtain ⟨o,es,ep,h1,h2,_⟩:=p
  exact PySem.W.kia_one PySem.W.kitx_dict I.kIn ⟨o,h1,h2.1⟩ e (fun z=>nomatch z) h
 | @dT a kvs ea =>
  cases (show u = Value.ref a from rx)
  obtain ⟨_,_,xs,_,o,es,ep,h1,h2,_⟩:=(show ObjOk X.prog X.w H s.heap a (.dT kvs) from I.hok a _ ea)
  exact PySem.W.kia_one PySem.W.kitx_dict I.kIn ⟨o,h1,h2.1⟩ e (fun z=>nomatch z) h
 | @ins a C dx fs ea cl ha hn htk hm =>
  cases (show u = Value.ref a from rx)
  obtain ⟨mA,O,_⟩:=zfs I.hok ea
  obtain ⟨od,J,_⟩:=O.look
  exact PySem.W.kia_one (PySem.W.kitx_own (cl.get _) cl.hd ha hn htk hm) I.kIn J e (fun z=>nomatch z) h
end
end L2
namespace L2
open PySem PySem.Spec PyProof.Rows
structure Room (k:Nat) (A:Around) : Prop where
 hd:A.handled = none
 dp:A.depth + 3 * k + 5 < recursionLimit
 un:A.units + 16 * k + 200 < cLine
theorem Room.mono {j k:Nat} {A:Around} (r:Room k A) (h:j ≤ k) : Room j A:=⟨r.hd,by have:=r.dp; omega,by have:=r.un; omega⟩
theorem Room.deeper {k:Nat} {A:Around} (r:Room (k + 1) A) (env:Env) : Room k (A.deeper env) :=
 ⟨r.hd,by have:=r.dp; show A.depth + 1 + 3 * k + 5 < _; omega,by have:=r.un; show A.units + 3 + 16 * k + 200 < _; omega⟩
theorem Room.in1 {k:Nat} {A:Around} (r:Room (k + 1) A) : Room k A.in1 :=
 ⟨r.hd,by have:=r.dp; show A.depth + 3 * k + 5 < _; omega,by have:=r.un; show A.units + 1 + 16 * k + 200 < _; omega⟩
theorem zhO {A:Around} {C:Addr} {us:List Value} {kw:List (Str × Value)} : (A.under (.builtin "type.__call__" ⟨.ref C :: us,kw⟩)).depth = A.depth + 1:=by
 first | rfl | simp [Around.under,Code.weight,Code.isCreation,Code.isGuard,Code.isCaller,Code.frames,Code.isFrame,guardIds]
theorem zii {A:Around} {C:Addr} {us:List Value} {kw:List (Str × Value)} : (A.under (.builtin "type.__call__" ⟨.ref C :: us,kw⟩)).units = A.units + 1:=by
 first | rfl | simp [Around.under,Code.cUnits,Code.frames,Code.isFrame]
theorem Room.make {k:Nat} {A:Around} (r:Room (k + 1) A) (C:Addr) (us:List Value) (kw:List (Str × Value)) : Room k (A.under (.builtin "type.__call__" ⟨.ref C :: us,kw⟩)) :=
 ⟨r.hd,by have:=r.dp; rw [zhO]; omega,by have:=r.un; rw [zii]; omega⟩
theorem Room.depth {k:Nat} {A:Around} (r:Room k A) : A.depth < recursionLimit:=by have:=r.dp; omega
theorem Room.units {k:Nat} {A:Around} (r:Room k A) : A.units + 64 < cLine:=by have:=r.un; omega
def tNil:TA:=fun _ H Q=>Q [] H
def zal (ta:TE) (tr:TA) : TA:=fun σ H Q=>ta σ H fun x H1=>tr σ H1 fun xs H2=>Q (x :: xs) H2
section
variable {X:Cx} {e:Expr} {es:List Expr} {te:TE} {t:TA} {pos:Pos}
theorem zlq:PA X [] tNil:=fun _ _ _ _ H Q I h=>Calls.spliced_nil ⟨[],H,I,.nil,h⟩
theorem ziW (ha:PE X e te) (hr:PA X es t) (hs:starEach (e :: es) X.env = (false,eval e X.env) :: starEach es X.env:=by rfl) : PA X (e :: es) (zal te t):=by
 intro pos pins s σ H Q I h
 rw [hs]
 show wpAny _ _ (spliced ((false,eval e X.env) :: backTo pos (starEach es X.env))) _ _ s
 refine Calls.spliced_cons (thn (ha pins s σ H _ I h) fun u s1 ⟨x,H1,I1,r1,q1⟩=>?_)
 exact thn (hr pos pins s1 σ H1 _ I1 q1) fun us s2 ⟨xs,H2,I2,r2,q2⟩=>⟨x :: xs,H2,I2,.cons r1 r2,q2⟩
def tTup (t:TA) : TE:=fun σ H Q=>t σ H fun xs H1=>xs.length ≤ sizeLine ∧ ∀ p,H1 p = none → Q (.ref p) (upd H1 p (.tup xs))
def tLst (t:TA) : TE:=fun σ H Q=>t σ H fun xs H1=>xs.length ≤ sizeLine ∧ ∀ p,H1 p = none → Q (.ref p) (upd H1 p (.lst xs))
theorem znp {x1} (h:PA X es t) : PE X (.Tuple es x1 pos) (tTup t):=by
 intro pins s σ H Q I hq
 refine wpAny_Tuple_spliced (thn (h pos pins s σ H _ I hq) fun us s1 ⟨xs,H1,I1,r,z,q⟩=>⟨by rw [← r.length]; exact z,?_⟩)
 have hf:H1 s1.heap.objs.size = none:=I1.hok.fresh (Nat.le_refl _)
 refine ⟨.ref s1.heap.objs.size,upd H1 s1.heap.objs.size (.tup xs),I1.laid (t':=s1.toks) (fun b u e=>Heap.get?_push_of_some _ e) (Nat.le_refl _) ?_,rfl,q _ hf⟩
 exact ⟨z,us,r,⟨_,Heap.get?_push_size _ rfl,rfl,_,rfl⟩⟩
theorem znf (h:PA X es t) : PE X (.List es pos) (tLst t):=by
 intro pins s σ H Q I hq
 refine wpAny_List_spliced (thn (h pos pins s σ H _ I hq) fun us s1 ⟨xs,H1,I1,r,z,q⟩=>⟨by rw [← r.length]; exact z,?_⟩)
 have hf:H1 s1.heap.objs.size = none:=I1.hok.fresh (Nat.le_refl _)
 refine ⟨.ref s1.heap.objs.size,upd H1 s1.heap.objs.size (.lst xs),I1.laid (t':=s1.toks) (fun b u e=>Heap.get?_push_of_some _ e) (Nat.le_refl _) ?_,rfl,q _ hf⟩
 exact ⟨z,us,0,r,Heap.get?_push_size _ rfl⟩
end
abbrev Sp:=List V → Hp → VK → XK → Prop
abbrev CXT:=List Env → Hp → Shared → XK → Value → Shared → Prop
structure Env0 (P:Program) (w:World) (K:PySem.W.Frag) (mg:Str → Option Value) (base:Heap) (A:Around) (outer:List Env) (s:Shared) (H:Hp) : Prop where
 frames:A.frames = some outer
 mod:Mod K mg base
 bs:∀ b o,base.get? b = some o → s.heap.get? b = some o ∧ H b = none
 bsz:base.objs.size ≤ s.heap.objs.size
 funs:s.heap.FunFrames base outer
 frf:∀ b ∈ frs outer,H b = none
 hok:HOk P w H s.heap
 bare:AllBare s.gens
def CE (outer:List Env) (P:Program) (w:World) (H:Hp) (s:Shared) (Q:VK) (u:Value) (s':Shared) : Prop :=
 ∃ v H',s'.os = s.os ∧ AllBare s'.gens ∧ Un (frs outer) [] H H' s.heap s'.heap ∧ HOk P w H' s'.heap ∧ RelV v u ∧ Q v H'
def CR (CX:CXT) (outer:List Env) (P:Program) (w:World) (H:Hp) (s:Shared) (Q:VK) (E:XK) (r:Result) (s':Shared) : Prop :=
 match r with
 | .ok (.ret u)=>CE outer P w H s Q u s'
 | .ok _=>False
 | .error e=>CX outer H s E e s'
structure FnOk (P:Program) (w:World) (K:PySem.W.Frag) (mg:Str → Option Value) (base:Heap) (CX:CXT) (k:Nat) (f:Addr) (fd:FuncData) (ps:List Str) (sp:Sp) : Prop where
 len:∀ vs H Q E,sp vs H Q E → vs.length = ps.length
 run:∀ (A:Around) (outer:List Env) (s:Shared) (H:Hp) (args:Args) (us:List Value) (vs:List V) (Q:VK) (E:XK),Room k A → Env0 P w K mg base A outer s H → BindsTo s fd args (ps.zip us) → Vals vs us → sp vs H Q E →
  codeAny (model P w) A (.call (.ref f) args) (CR CX outer P w H s Q E) s
theorem Env0.make {P:Program} {w:World} {K:PySem.W.Frag} {mg:Str → Option Value} {base:Heap} {A:Around} {outer:List Env} {s:Shared} {H:Hp} (e:Env0 P w K mg base A outer s H) (C:Addr) (us:List Value) (kw:List (Str × Value)) :
  Env0 P w K mg base (A.under (.builtin "type.__call__" ⟨.ref C :: us,kw⟩)) outer s H:=⟨by first | exact e.frames | (simpa [Around.under,Code.envs,Code.isFrame,pushEnvs] using e.frames),e.mod,e.bs,e.bsz,e.funs,e.frf,e.hok,e.bare⟩
section
variable {X:Cx} {pins:List (Addr × Obj)} {σ:St} {H:Hp} {s s':Shared}
theorem Inv.env0 (I:Inv X pins σ H s) : Env0 X.prog X.w X.K X.mg X.base X.A X.stack s H :=
 ⟨I.ok.frames,I.ok.mod,I.bs,Nat.le_trans I.ok.bsz I.sz,I.stack,I.stkFree,I.hok,I.bare⟩
theorem Inv.after {Q:VK} {u:Value} (I:Inv X pins σ H s) (h:CE X.stack X.prog X.w H s Q u s') : EP X pins σ Q u s':=by
 obtain ⟨v,H',os,bare,un,hok,r,q⟩:=h
 obtain ⟨hh,g,d,t,os'⟩:=s'
 obtain rfl:os' = s.os:=os
 exact ⟨v,H',I.call (h':=hh) (g':=g) (d':=d) (t':=t) (ch:=[]) un hok bare (fun b z=>absurd z (by simp)),r,q⟩
end
def zcG (sp:Sp) (dvs:List V) (E:XK) (t:TA) : TE:=fun σ H Q=>t σ H fun vs H1=>sp (vs ++ dvs) H1 Q E
def zhd (C:Addr) (m:Str) (sp:Sp) (dvs:List V) (E:XK) (ta:TE) (t:TA) : TE:=fun σ H Q=>ta σ H fun x H1=>∃ a dx fs,x = .ref a ∧ H1 a = some (.ins C dx fs) ∧ fs.lookup m = none ∧
 t σ H1 fun vs H2=>sp (x :: (vs ++ dvs)) H2 Q E
def zop (C:Addr) (sp:Sp) (dvs:List V) (E:XK) (t:TA) : TE:=fun σ H Q=>t σ H fun vs H1=>∀ x dx,H1 x = none → H1 dx = none → dx ≠ x →
 sp (.ref x :: (vs ++ dvs)) (upd (upd H1 dx (.own x)) x (.ins C dx [])) (fun v H2=>v = .non ∧ Q (.ref x) H2) E
def Binds (K:PySem.W.Frag) (fd:FuncData) (ps:List Str) (ds:List Value) : Prop :=
 ∀ (s:Shared) (us:List Value),K.In s.heap → (us ++ ds).length = ps.length → BindsTo s fd ⟨us,[]⟩ (ps.zip (us ++ ds))
theorem Binds.all {K:PySem.W.Frag} {fd:FuncData} {ps:List Str} (h:∀ us:List Value,us.length = ps.length → bindArgs fd ⟨us,[]⟩ = pure (ps.zip us)) : Binds K fd ps []:=fun s us _ hl=>by
 rw [List.append_nil] at hl ⊢
 exact .of_eq (h us hl)
def Passes (CX:CXT) (X:Cx) (E:XK) : Prop:=∀ (pins:List (Addr × Obj)) (σ:St) (H:Hp) (s:Shared) (e:Value) (s':Shared),Inv X pins σ H s → CX X.stack H s E e s' → X.xe e s'
section
variable {X:Cx} {CX:CXT} {k:Nat} {f C:Addr} {fd:FuncData} {ps:List Str} {sp:Sp} {dvs:List V} {ds:List Value} {E:XK} {x m:Str} {p pos apos:Pos} {e o:Expr} {es:List Expr} {ta:TE} {t:TA}
theorem zhM {pins:List (Addr × Obj)} {σ:St} {H:Hp} {s:Shared} {Q:VK} {us:List Value} {vs:List V} (F:FnOk X.prog X.w X.K X.mg X.base CX k f fd ps sp) (hr:Room k X.A) (hb:Binds X.K fd ps ds) (hd:Vals dvs ds) (hx:Passes CX X E)
  (I:Inv X pins σ H s) (r:Vals vs us) (h:sp (vs ++ dvs) H Q E) : wpAny (model X.prog X.w) X.A (call (.ref f) us) (EP X pins σ Q) X.xe s:=by
 have r2:Vals (vs ++ dvs) (us ++ ds):=r.append hd
 have hl:(us ++ ds).length = ps.length:=by rw [← r2.length]; exact F.len _ _ _ _ h
 refine wpAny_call (codeAny_mono (F.run X.A X.stack s H ⟨us,[]⟩ (us ++ ds) (vs ++ dvs) Q E hr I.env0 (hb s us I.kIn hl) r2 h) fun r s' hq=>?_)
 cases r with
 | error e=>exact hx pins σ H s e s' I hq
 | ok fl =>
  cases fl with
  | ret u=>exact I.after hq
  | next=>exact False.elim hq
  | brk=>exact False.elim hq
  | cont=>exact False.elim hq
theorem zmG (F:FnOk X.prog X.w X.K X.mg X.base CX k f fd ps sp) (hr:Room k X.A) (hg:Gl X x) (hm:X.mg x = some (.ref f)) (hk:PySem.W.keepIn X.K (.ref f) = true) (hb:Binds X.K fd ps ds) (hd:Vals dvs ds) (hx:Passes CX X E)
  (ha:PA X (e :: es) t) (hdb:(x == ("__debug__" : Str)) = false:=by decide) (he:starEach (e :: es) X.env = (false,eval e X.env) :: starEach es X.env:=by rfl) (hpl:(backTo pos (starEach es X.env)).any (·.1) = false:=by rfl) :
  PE X (.Call (.Name x p) (e :: es) [] pos) (zcG sp dvs E t):=by
 intro pins s σ H Q I h
 refine wpAny_Call_Name_kw (zgP I hg hm ?_ hdb)
 refine PySem.W.callWith_K (h₀:=X.base) I.ok.mod.kin hk (thn (ha pos pins s σ H _ I h) fun us s1 ⟨vs,H1,I1,r,q⟩=>⟨I1.kIn,?_⟩) he hpl
 exact zhM F hr hb hd hx I1 r q
theorem zlQ {pl:Sem Bool} (he:PE X o ta) (c:Cls X.K C) (hm:Meth X.K C m f) (F:FnOk X.prog X.w X.K X.mg X.base CX k f fd ps sp) (hr:Room k X.A) (hb:Binds X.K fd ps ds) (hd:Vals dvs ds) (hx:Passes CX X E) (ha:PA X (e :: es) t)
  (hst:starEach (e :: es) X.env = (false,eval e X.env) :: starEach es X.env:=by rfl) (hpl:(backTo pos (starEach es X.env)).any (·.1) = false:=by rfl)
  (ht:eval (.Call (.Attribute o m apos) (e :: es) [] pos) X.env = (do
   let ov ← eval o X.env
   standAt apos.atName
   let (f,first) ← holding [ov] (getMethod ov m pl)
   callWith pos f first (backTo pos (starEach (e :: es) X.env)) (backToKw pos (keywordEach [] X.env))):=by rfl) :
  PE X (.Call (.Attribute o m apos) (e :: es) [] pos) (zhd C m sp dvs E ta t):=by
 intro pins s σ H Q I h
 refine PySem.W.methodCall_KW (pl:=pl) (thn (he pins s σ H _ I h) fun u s1 ⟨x,H1,I1,rx,a,dx,fs,ex,ea,l,q⟩=>?_) ht
 subst ex
 obtain rfl:u = Value.ref a:=rx
 refine zdu I1 ea c hm l ?_
 refine PySem.W.callWith_K (first:=[.ref a]) (h₀:=X.base) I.ok.mod.kin hm.kp (thn (ha pos pins s1 σ H1 _ I1 q) fun us s2 ⟨vs,H2,I2,r,q2⟩=>⟨I2.kIn,?_⟩) hst hpl
 exact zhM (us:=.ref a :: us) (vs:=.ref a :: vs) F hr hb hd hx I2 (.cons rfl r) q2
theorem zj3 {pl:Sem Bool} (he:PE X o ta) (c:Cls X.K C) (hm:Meth X.K C m f) (F:FnOk X.prog X.w X.K X.mg X.base CX k f fd ps sp) (hr:Room k X.A) (hb:Binds X.K fd ps ds) (hd:Vals dvs ds) (hx:Passes CX X E)
  (ht:eval (.Call (.Attribute o m apos) [] [] pos) X.env = (do
   let ov ← eval o X.env
   standAt apos.atName
   let (f,first) ← holding [ov] (getMethod ov m pl)
   callWith pos f first (backTo pos (starEach [] X.env)) (backToKw pos (keywordEach [] X.env))):=by rfl) :
  PE X (.Call (.Attribute o m apos) [] [] pos) (zhd C m sp dvs E ta tNil):=by
 intro pins s σ H Q I h
 refine PySem.W.methodCall_KW (pl:=pl) (thn (he pins s σ H _ I h) fun u s1 ⟨x,H1,I1,rx,a,dx,fs,ex,ea,l,q⟩=>?_) ht
 subst ex
 obtain rfl:u = Value.ref a:=rx
 refine zdu I1 ea c hm l ?_
 exact PySem.W.callWith_K0 (first:=[.ref a]) I1.kIn hm.kp (zhM (us:=[.ref a]) (vs:=[.ref a]) F hr hb hd hx I1 (.cons rfl .nil) q)
structure Mk (K:PySem.W.Frag) (C f:Addr) : Prop where
 makes:PySem.W.makesIn K C = true
 init:PySem.W.findIn K (.ref C) "__init__" = some (some (.ref f))
 fn:PySem.W.isFn K (.ref f) = true
 kp:PySem.W.keepIn K (.ref C) = true
theorem zks {pins:List (Addr × Obj)} {σ:St} {H:Hp} {s:Shared} {Q:VK} {us:List Value} {vs:List V} (M:Mk X.K C f) (F:FnOk X.prog X.w X.K X.mg X.base CX k f fd ps sp) (hr:Room (k + 1) X.A) (hb:Binds X.K fd ps ds) (hd:Vals dvs ds)
  (hx:Passes CX X E) (I:Inv X pins σ H s) (r:Vals vs us)
  (h:∀ x dx,H x = none → H dx = none → dx ≠ x → sp (.ref x :: (vs ++ dvs)) (upd (upd H dx (.own x)) x (.ins C dx [])) (fun v H2=>v = .non ∧ Q (.ref x) H2) E) :
  wpAny (model X.prog X.w) X.A (call (.ref C) us) (EP X pins σ Q) X.xe s:=by
 have hq:=h (s.heap.objs.size + 1) s.heap.objs.size (I.hok.fresh (Nat.le_succ _)) (I.hok.fresh (Nat.le_refl _)) (Nat.ne_of_lt (Nat.lt_succ_self _))
 have I2:=Inv.made (C:=C) I
 have r2:Vals (V.ref (s.heap.objs.size + 1) :: (vs ++ dvs)) (Value.ref (s.heap.objs.size + 1) :: (us ++ ds)):=.cons rfl (r.append hd)
 have hl:(Value.ref (s.heap.objs.size + 1) :: us ++ ds).length = ps.length:=by
  have e:=r2.length
  rw [F.len _ _ _ _ hq] at e
  exact e.symm
 refine wpAny_call (zkG (f:=f) I.kIn M.makes M.init (beq_iff_eq.mp M.fn) (codeAny_mono (F.run _ X.stack _ _ ⟨Value.ref (s.heap.objs.size + 1) :: us,[]⟩ (Value.ref (s.heap.objs.size + 1) :: (us ++ ds)) _ _ E (hr.make C us [])
  (I2.env0.make C us []) (hb _ (Value.ref (s.heap.objs.size + 1) :: us) I2.kIn hl) r2 hq) fun r s' hq'=>?_))
 cases r with
 | error e=>exact hx pins σ _ _ e s' I2 hq'
 | ok fl =>
  cases fl with
  | ret u =>
   obtain ⟨v,H',I3,rv,ev,q3⟩:=I2.after hq'
   subst ev
   exact ⟨rv,⟨V.ref (s.heap.objs.size + 1),H',I3,rfl,q3⟩⟩
  | next=>exact False.elim hq'
  | brk=>exact False.elim hq'
  | cont=>exact False.elim hq'
theorem zmr (M:Mk X.K C f) (F:FnOk X.prog X.w X.K X.mg X.base CX k f fd ps sp) (hr:Room (k + 1) X.A) (hg:Gl X x) (hm:X.mg x = some (.ref C)) (hb:Binds X.K fd ps ds) (hd:Vals dvs ds) (hx:Passes CX X E)
  (ha:PA X (e :: es) t) (hdb:(x == ("__debug__" : Str)) = false:=by decide) (he:starEach (e :: es) X.env = (false,eval e X.env) :: starEach es X.env:=by rfl) (hpl:(backTo pos (starEach es X.env)).any (·.1) = false:=by rfl) :
  PE X (.Call (.Name x p) (e :: es) [] pos) (zop C sp dvs E t):=by
 intro pins s σ H Q I h
 refine wpAny_Call_Name_kw (zgP I hg hm ?_ hdb)
 refine PySem.W.callWith_K (h₀:=X.base) I.ok.mod.kin M.kp (thn (ha pos pins s σ H _ I h) fun us s1 ⟨vs,H1,I1,r,q⟩=>⟨I1.kIn,?_⟩) he hpl
 exact zks M F hr hb hd hx I1 r q
end
def PK (X:Cx) (kws:List Keyword) (t:TA) : Prop :=
 ∀ (pos:Pos) (pins:List (Addr × Obj)) (s:Shared) (σ:St) (H:Hp) (Q:List V → Hp → Prop),Inv X pins σ H s → t σ H Q → wpAny (model X.prog X.w) X.A (evalAll ((backToKw pos (keywordEach kws X.env)).map (·.2))) (AP X pins σ Q) X.xe s
section
variable {X:Cx} {CX:CXT} {k:Nat} {f C:Addr} {fd:FuncData} {ps ks:List Str} {sp:Sp} {E:XK} {x m:Str} {p pos apos kpos:Pos} {e o:Expr} {es:List Expr} {kws:List Keyword} {te ta:TE} {t tk:TA} {nm:Option Str}
theorem zno:PK X [] tNil:=fun _ _ _ _ H Q I h=>wpAny_evalAll_nil ⟨[],H,I,.nil,h⟩
theorem zmc (ha:PE X e te) (hr:PK X kws t) : PK X (⟨nm,e,kpos⟩ :: kws) (zal te t):=by
 intro pos pins s σ H Q I h
 show wpAny _ _ (evalAll ((do let v ← eval e X.env; standAt pos; pure v) :: (backToKw pos (keywordEach kws X.env)).map (·.2))) _ _ s
 refine wpAny_evalAll_cons (wpAny_bind (thn (ha pins s σ H _ I h) fun u s1 ⟨x,H1,I1,r1,q1⟩=>wpAny_bind (wpAny_standAt (wpAny_pure ?_))))
 exact thn (hr pos pins s1 σ H1 _ I1 q1) fun us s2 ⟨xs,H2,I2,r2,q2⟩=>⟨x :: xs,H2,I2,.cons r1 r2,q2⟩
variable {g:List Value → List Value → List Value} {gV:List V → List V → List V}
end
structure FnScope (N P:List Str) (sc:Scope) : Prop where
 kind:sc.kind = .function
 co:sc.isCoroutine = false
 gen:sc.isGenerator = false
 nd:N.Nodup
 pre:N.take P.length = P
 par:∀ x ∈ P,sc.names.lookup x = some .local ∨ sc.names.lookup x = some .cell
 nofree:∀ y ∈ sc.names,y.2 ≠ .free
theorem zgc {kindOf:Str → Option NameKind} {x:Str} : ∀ {binds:List (Str × Value)} {m:Str → Option Value},(∀ v,(x,v) ∉ binds) → bindL kindOf binds m x = m x
 | [],_,_=>rfl
 | (n, v) :: r, m, h => by
  unfold bindL
  rw [zgc fun w hw=>h w (List.mem_cons_of_mem _ hw)]
  split
  ·have:x ≠ n:=by rintro rfl; exact h v List.mem_cons_self
   simp [this]
  ·rfl
theorem zgw {kindOf:Str → Option NameKind} {x:Str} : ∀ {binds:List (Str × Value)} {m:Str → Option Value},(∀ v,(x,v) ∉ binds) → bindC kindOf binds m x = m x
 | [],_,_=>rfl
 | (n, v) :: r, m, h => by
  unfold bindC
  rw [zgw fun w hw=>h w (List.mem_cons_of_mem _ hw)]
  split
  ·rfl
  ·have:x ≠ n:=by rintro rfl; exact h v List.mem_cons_self
   simp [this]
theorem zgD {kindOf:Str → Option NameKind} {x:Str} {v:Value} : ∀ {P:List Str} {vs:List Value} {i:Nat} {m:Str → Option Value},P.Nodup → P[i]? = some x → vs[i]? = some v → kindOf x = some .local →
  bindL kindOf (P.zip vs) m x = some v
 | [],_,_,_,_,h,_,_=>by simp at h
 | _ :: _,[],_,_,_,_,h,_=>by simp at h
 | p :: P,w :: vs,0,m,nd,h1,h2,hk=>by
  simp at h1 h2; subst h1; subst h2
  show bindL kindOf ((p,w) :: P.zip vs) m p = _
  unfold bindL
  rw [zgc fun v hv=>(List.nodup_cons.mp nd).1 (List.of_mem_zip hv).1,if_pos hk]
  simp
 | p :: P,w :: vs,i + 1,m,nd,h1,h2,hk=>by
  show bindL kindOf ((p,w) :: P.zip vs) m x = _
  unfold bindL
  exact zgD (i:=i) (List.nodup_cons.mp nd).2 (by simpa using h1) (by simpa using h2) hk
theorem zgA {kindOf:Str → Option NameKind} {x:Str} {v:Value} : ∀ {P:List Str} {vs:List Value} {i:Nat} {m:Str → Option Value},P.Nodup → P[i]? = some x → vs[i]? = some v → kindOf x ≠ some .local →
  bindC kindOf (P.zip vs) m x = some v
 | [],_,_,_,_,h,_,_=>by simp at h
 | _ :: _,[],_,_,_,_,h,_=>by simp at h
 | p :: P,w :: vs,0,m,nd,h1,h2,hk=>by
  simp at h1 h2; subst h1; subst h2
  show bindC kindOf ((p,w) :: P.zip vs) m p = _
  unfold bindC
  rw [zgw fun v hv=>(List.nodup_cons.mp nd).1 (List.of_mem_zip hv).1,if_neg hk]
  simp
 | p :: P,w :: vs,i + 1,m,nd,h1,h2,hk=>by
  show bindC kindOf ((p,w) :: P.zip vs) m x = _
  unfold bindC
  exact zgA (i:=i) (List.nodup_cons.mp nd).2 (by simpa using h1) (by simpa using h2) hk
def start (N:List Str) (vs:List V) : St:=vs.map some ++ List.replicate (N.length - vs.length) none
def cxOf (CX:CXT) (P:Program) (w:World) (K:PySem.W.Frag) (mg:Str → Option Value) (base:Heap) (N:List Str) (qual:Str) (scope:Scope) (f:Addr) (cd:Value) (A:Around) (outer:List Env) (s:Shared) (H:Hp) (E:XK) : Cx where
 prog:=P
 w:=w
 K:=K
 mg:=mg
 base:=base
 A:=A.deeper (envOfC qual scope s.heap.objs.size f cd)
 N:=N
 s₀:=s
 H₀:=H
 env:=envOfC qual scope s.heap.objs.size f cd
 outer:=outer
 stack:=envOfC qual scope s.heap.objs.size f cd :: outer
 ex:=[]
 calm:=true
 fn:=fun _=>true
 pn:=[]
 xe:=fun e s'=>wpAny (model P w) (A.deeper (envOfC qual scope s.heap.objs.size f cd)) (leaving (envOfC qual scope s.heap.objs.size f cd) e) (fun _ s''=>CX outer H s E e s'') (fun e' s''=>CX outer H s E e' s'') s'
theorem zhI {sc:Scope} {n:Nat} {x:Str} (h:sc.names.lookup x = some .cell) : ∃ c,(cellsFrom n sc.names []).lookup x = some c:=by
 have q:=PySem.W.cellsFrom_some sc.names n [] (.inl h)
 exact Option.isSome_iff_exists.mp q
theorem zjB {CX:CXT} {P:Program} {w:World} {K:PySem.W.Frag} {mg:Str → Option Value} {base:Heap} {N ps:List Str} {qual:Str} {scope:Scope} {f:Addr} {cd:Value} {A:Around} {outer:List Env} {s s1:Shared} {H:Hp} {E:XK} {us:List Value} {vs:List V}
  (S:FnScope N ps scope) (hd:A.handled = none) (e0:Env0 P w K mg base A outer s H) (hl:vs.length = ps.length) (r:Vals vs us)
  (x:InCallC s s.heap.objs.size (bindL (envOfC qual scope s.heap.objs.size f cd).kindOf (ps.zip us) fun _=>none) (cellsFrom (s.heap.objs.size + 1) scope.names []) (bindC (envOfC qual scope s.heap.objs.size f cd).kindOf (ps.zip us) fun _=>none) s1) :
  Inv (cxOf CX P w K mg base N qual scope f cd A outer s H E) [] (start N vs) H s1:=by
 have hpl:ps.length ≤ N.length:=by have:=congrArg List.length S.pre; rw [List.length_take] at this; omega
 obtain ⟨h1,tk,rfl,hk⟩:=x.done
 have noA:∀ b:Addr,b ∉ (cxOf CX P w K mg base N qual scope f cd A outer s H E).ex:=fun b z=>absurd (show b ∈ ([] : List Addr) from z) (by simp)
 refine ⟨⟨e0.mod,S.kind,rfl,rfl,Nat.le_refl _,fun y z c h1 h2=>?_,fun y hy=>?_,fun y c _ h=>?_,fun _=>hd,Around.frames_deeper e0.frames,.inr ⟨rfl,rfl⟩,fun b z=>absurd z (noA b),e0.bs,e0.bsz,fun b _ _=>noA b,fun b z=>absurd z (noA b),e0.funs,e0.frf⟩,
  rfl,e0.bare,Un.kept hk,⟨_,x.toInCall.ns,fun i y v h1 h2 h3=>?_⟩,fun y c h=>⟨_,x.cell y c h⟩,e0.hok.fresh (Nat.le_refl _),fun y c h=>?_,fun p hp=>absurd (show p ∈ ([] : List (Addr × Obj)) from hp) (by simp),e0.hok.kept hk,?_⟩
 ·exact name_of_addr x.apart (PySem.mem_of_lookup h1) (PySem.mem_of_lookup h2)
 ·have hy:scope.names.lookup y = some .cell ∨ scope.names.lookup y = some .free:=hy
  rcases hy with hy | hy
  ·exact zhI hy
  ·exact absurd rfl (S.nofree _ (PySem.mem_of_lookup hy))
 ·exact Nat.le_of_lt (x.above y c (PySem.mem_of_lookup h))
 ·have hi:i < vs.length:=by
   unfold start at h2
   by_cases hi:i < vs.length
   ·exact hi
   ·rw [List.getElem?_append_right (by simpa using hi)] at h2
    rw [List.getElem?_replicate] at h2
    split at h2 <;> cases h2
  have ha:vs[i]? = some v:=by
   unfold start at h2
   rw [List.getElem?_append_left (by simpa using hi),List.getElem?_map] at h2
   cases e:vs[i]? with
   | none=>rw [e] at h2; cases h2
   | some a=>rw [e] at h2; cases h2; rfl
  obtain ⟨u,hu,rv⟩:=r.get ha
  have hp:ps[i]? = some y:=by
   rw [← S.pre,List.getElem?_take_of_lt (by omega)]; exact h1
  have ndP:ps.Nodup:=by rw [← S.pre]; exact S.nd.sublist (List.take_sublist _ _)
  refine ⟨u,rv,?_⟩
  rcases S.par y (List.mem_of_getElem? hp) with k | k
  ·exact .inl ⟨k,zgD ndP hp hu k⟩
  ·obtain ⟨c,e⟩:=zhI (n:=s.heap.objs.size + 1) k
   refine .inr ⟨.inl k,c,e,?_⟩
   have q:=x.cell y c e
   rw [zgA ndP hp hu (by show scope.names.lookup y ≠ _; rw [k]; decide)] at q
   exact q
 ·exact e0.hok.fresh (Nat.le_of_lt (x.above y c (PySem.mem_of_lookup h)))
 ·unfold start
  show _ = N.length
  rw [List.length_append,List.length_map,List.length_replicate]
  omega
theorem zos {CX:CXT} {P:Program} {w:World} {K:PySem.W.Frag} {mg:Str → Option Value} {base:Heap} {k:Nat} {f:Addr} {name qual:Str} {params:Arguments} {body:List Stmt} {scope:Scope} {dV kV doc pm cdv ct oc:Value} {an od:Option Addr}
  {osl:Array (Option Value)} {N ps:List Str} {sp:Sp} (lk:K.lookup f = some ⟨oc,od,.func (PySem.W.fnOf name qual params body scope dV kV doc pm an cdv ct),osl⟩) (hcd:PySem.W.codeIn K cdv qual = true) (S:FnScope N ps scope)
  (len:∀ vs H Q E,sp vs H Q E → vs.length = ps.length)
  (hbody:∀ (A:Around) (outer:List Env) (s:Shared) (H:Hp) (vs:List V) (Q:VK) (E:XK),Room k (A.deeper (envOfC qual scope s.heap.objs.size f cdv)) → sp vs H Q E →
   ∃ t,PSs (cxOf CX P w K mg base N qual scope f cdv A outer s H E) body t ∧ t { nx:=fun _ H'=>Q .non H',rt:=Q } (start N vs) H) :
  FnOk P w K mg base CX (k + 1) f (PySem.W.fnOf name qual params body scope dV kV doc pm an cdv ct) ps sp:=by
 refine ⟨len,fun A outer s H args us vs Q E hr e0 hb r hsp=>?_⟩
 have hl:=len _ _ _ _ hsp
 have KX:K.In s.heap:=e0.mod.kin.keeps fun b o e=>(e0.bs b o e).1
 have lim:s.heap.NoLimit:=e0.mod.nolimit.keeps fun b o e=>(e0.bs b o e).1
 have hkind:∀ y ∈ ps.zip us,scope.names.lookup y.1 = some .local ∨ (scope.names.lookup y.1 = some .cell ∧ ((cellsFrom (s.heap.objs.size + 1) scope.names []).lookup y.1).isSome = true):=fun ⟨n,v⟩ hy=>by
  rcases S.par n (List.of_mem_zip hy).1 with q | q
  ·exact .inl q
  ·exact .inr ⟨q,PySem.W.cellsFrom_some _ _ _ (.inl q)⟩
 refine codeAny_call_function hr.depth (KX _ _ lk) rfl S.co S.gen rfl (PySem.W.codeRec_of KX hcd) (hb _ _ _ _ ?_)
 refine wpAny_newFunctionEnv_cells S.kind hkind fun env he s1 x=>?_
 subst he
 refine ⟨lim.keeps x.toInCall.keep,codeAny_func ?_⟩
 obtain ⟨t,ht,hq⟩:=hbody A outer s H vs Q E (hr.deeper _) hsp
 have I:Inv (cxOf CX P w K mg base N qual scope f cdv A outer s H E) [] (start N vs) H s1:=zjB S hr.hd e0 hl r x
 refine wpAny_mono (ht [] s1 (start N vs) H _ I hq) (fun fl s' hs=>?_) fun e s' hs=>hs
 have fin:∀ {σ':St} {H':Hp} {v:V} {u:Value},Inv (cxOf CX P w K mg base N qual scope f cdv A outer s H E) [] σ' H' s' → RelV v u → Q v H' → CE outer P w H s Q u s' :=
  fun {σ' H' v u} J rv q=>⟨v,H',J.os,J.bare,J.base,J.hok,rv,q⟩
 cases fl with
 | ret u =>
  obtain ⟨v,σ',H',J,rv,q⟩:=hs
  exact fin J rv q
 | next =>
  obtain ⟨σ',H',J,q⟩:=hs
  exact fin (v:=V.non) (u:=Value.none) J rfl q
 | brk =>
  obtain ⟨_,_,_,q⟩:=hs
  exact False.elim q
 | cont =>
  obtain ⟨_,_,_,q⟩:=hs
  exact False.elim q
end L2
namespace L2
open PySem PySem.Spec PyProof.Rows
section
variable {X:Cx} {x:Str} {p pos:Pos} {e:Expr} {es:List Expr} {t:TA} {id T:String} {r:List V → Hp → VK → Prop}
def tCB (r:List V → Hp → VK → Prop) (t:TA) : TE:=fun σ H Q=>t σ H fun vs H1=>r vs H1 Q
theorem zkH (hc:zcZ X (.builtin id) r) (hg:Gl X x) (hm:X.mg x = none) (hv:bootBuiltins x = some (.builtin id)) (ha:PA X (e :: es) t) (hn:x ≠ "__name__" := by decide) (hdb:(x == ("__debug__" : Str)) = false:=by decide)
  (he:starEach (e :: es) X.env = (false,eval e X.env) :: starEach es X.env:=by rfl) (hpl:(backTo pos (starEach es X.env)).any (·.1) = false:=by rfl) : PE X (.Call (.Name x p) (e :: es) [] pos) (tCB r t):=by
 intro pins s σ H Q I h
 refine wpAny_Call_Name_kw (zed I hg hm hv ?_ hn hdb)
 exact PyProof.Rows.callWith_builtin1 (thn (ha pos pins s σ H _ I h) fun us s1 ⟨vs,H1,I1,r1,q1⟩=>hc pins s1 σ H1 vs us Q I1 r1 q1) he hpl
theorem ziV (hc:zcZ X (.type T) r) (hg:Gl X x) (hm:X.mg x = none) (hv:bootBuiltins x = some (.type T)) (ha:PA X (e :: es) t) (hn:x ≠ "__name__" := by decide) (hdb:(x == ("__debug__" : Str)) = false:=by decide)
  (he:starEach (e :: es) X.env = (false,eval e X.env) :: starEach es X.env:=by rfl) (hpl:(backTo pos (starEach es X.env)).any (·.1) = false:=by rfl) : PE X (.Call (.Name x p) (e :: es) [] pos) (tCB r t):=by
 intro pins s σ H Q I h
 refine wpAny_Call_Name_kw (zed I hg hm hv ?_ hn hdb)
 exact PyProof.Rows.callWith_type1 (thn (ha pos pins s σ H _ I h) fun us s1 ⟨vs,H1,I1,r1,q1⟩=>hc pins s1 σ H1 vs us Q I1 r1 q1) he hpl
end
end L2
namespace HT
open PySem PyProof.Rows
def lexLt:List Int → List Int → Bool
 | [],[]=>false
 | [],_ :: _=>true
 | _ :: _,[]=>false
 | x :: xs,y :: ys=>if x = y then lexLt xs ys else decide (x < y)
theorem lexLt_cons (x y:Int) (xs ys:List Int) : lexLt (x :: xs) (y :: ys) = if x = y then lexLt xs ys else decide (x < y):=rfl
theorem zfv:lexLt [] [] = false:=rfl
theorem zeF (y:Int) (ys:List Int) : lexLt [] (y :: ys) = true:=rfl
theorem zeD (x:Int) (xs:List Int) : lexLt (x :: xs) [] = false:=rfl
theorem zk5 (A:Around) (s:Shared) (a:Int) (t:Tok) (c:Int) (u:Tok) : ∃ e,SeqAt.EqAt A s (.int a t) (.int c u) e ∧ (e = true ↔ a = c) :=
 ⟨(a == c),SeqAt.EqAt.int_int a t c u,by simp⟩
theorem zk0 (A:Around) (s:Shared) (a:Int) (t:Tok) (c:Int) (u:Tok) (prog:Program) (w:World) (E:Value → Shared → Prop) (Q:Value → Shared → Prop) (h:Q (.bool (decide (a < c))) s) :
  wpAny (model prog w) A (richCompare .Lt (.int a t) (.int c u)) Q E s :=
 (PyProof.Rows.lt_int h:wpAny (model prog w) A (compareOp .Lt (.int a t) (.int c u)) Q E s)
section
open PySem.SeqAt
open PySem.AutoSeq1 (wpAny_loadPart')
open PySem.MeetsSeq PySem.MeetsSeq2 PySem.MeetsSeq3
theorem zfn (l b:Addr) (items items2:Array Value) (n n2:Nat) (dd dd2:Option Addr) (sl sl2:Array (Option Value)) (ns ms:List Int) (hi:IntsAre items.toList ns) (hj:IntsAre items2.toList ms) :
  Meets (Builtin.«tuple.__lt__» ⟨[.ref l,.ref b],[]⟩)
   (fun _ R s=>s.heap.get? l = some { cls:=.type "tuple", dict:=dd,data:=.seq items n,slots:=sl } ∧ s.heap.get? b = some { cls:=.type "tuple", dict:=dd2,data:=.seq items2 n2,slots:=sl2 } ∧
    R (.ok (.ret (.bool (lexLt ns ms)))) s) :=
 .of_wp fun prog w A R s h=>by
  obtain ⟨hp,g,d,tk,os⟩:=s; obtain ⟨hl,hb,h⟩:=h
  have f2:=AutoSeq1.sub_tuple_tuple
  have z1:items.size = ns.length:=by rw [← hi.length]; simp
  have z2:items2.size = ms.length:=by rw [← hj.length]; simp
  wp_walk using wpAny_loadPart' hl,wpAny_loadPart' hb,wpAny_forIn_list _ (fun rest b s'=>b.1 = none ∧ s' = ⟨hp,g,d,tk,os⟩ ∧ ∃ (vs ws:List Value) (ns' ms':List Int),rest = vs.zip ws ∧
   IntsAre vs ns' ∧ IntsAre ws ms' ∧ ns'.length + items2.size = ms'.length + items.size ∧ R (.ok (.ret (.bool (lexLt ns' ms')))) ⟨hp,g,d,tk,os⟩) _
  case turn =>
   rintro ⟨y,x⟩ rest b s' ⟨hb',rfl,vs,ws,ns',ms',hz,hvi,hwi,hlen,hR⟩
   cases hvi with
   | nil=>rw [List.zip_nil_left] at hz; cases hz
   | cons a t hvi' =>
    cases hwi with
    | nil=>rw [List.zip_nil_right] at hz; cases hz
    | cons c u hwi' =>
     rw [List.zip_cons_cons] at hz
     injection hz with hyx hrest
     injection hyx with hy hx
     subst hy hx
     rw [lexLt_cons] at hR
     simp only [List.length_cons] at hlen
     obtain ⟨e,he,hiff⟩:=zk5 A.in1 ⟨hp,g,d,tk,os⟩ a t c u
     refine wpAny_bind (he prog w _ _ ?_)
     cases e with
     | true =>
      rw [if_pos (hiff.mp rfl)] at hR
      wp_walk
      exact ⟨rfl,rfl,_,_,_,_,hrest,hvi',hwi',by omega,hR⟩
     | false =>
      rw [if_neg (fun q=>absurd (hiff.mpr q) Bool.false_ne_true)] at hR
      have hri:=zk0 A.in1 ⟨hp,g,d,tk,os⟩ a t c u prog w
      wp_walk using hri
      exact ⟨_,rfl,by simpa using hR⟩
  case fin =>
   rintro ⟨b1,b2⟩ s' ⟨hb',rfl,vs,ws,ns',ms',hz,hvi,hwi,hlen,hR⟩
   simp only at hb'
   subst hb'
   have hv:lexLt ns' ms' = decide (items.size < items2.size):=by
    cases hvi with
    | nil =>
     cases hwi with
     | nil =>
      simp only [List.length_nil] at hlen
      rw [zfv]
      exact (decide_eq_false (by omega)).symm
     | cons c u hw =>
      simp only [List.length_nil,List.length_cons] at hlen
      rw [zeF]
      exact (decide_eq_true (by omega)).symm
    | cons a t hv =>
     cases hwi with
     | nil =>
      simp only [List.length_nil,List.length_cons] at hlen
      rw [zeD]
      exact (decide_eq_false (by omega)).symm
     | cons c u hw =>
      rw [List.zip_cons_cons] at hz
      cases hz
   rw [hv] at hR
   wp_walk
   exact ⟨_,rfl,by simpa [Builtin.Tuple.tupleCompareSizes] using hR⟩
  case h =>
   exact ⟨rfl,rfl,items.toList,items2.toList,ns,ms,rfl,hi,hj,by omega,h⟩
end
section
variable {prog:Program} {w:World} {A:Around} {E:Value → Shared → Prop} {s:Shared}
theorem lt_tupInts {l b:Addr} {items items2:Array Value} {ns ms:List Int} {Q:Value → Shared → Prop} (hl:IsTup s.heap l items) (hb:IsTup s.heap b items2) (hi:IntsAre items.toList ns) (hj:IntsAre items2.toList ms)
  (hu:A.units < cLine) (h:Q (.bool (lexLt ns ms)) s) : wpAny (model prog w) A (compareOp .Lt (.ref l) (.ref b)) Q E s:=by
 obtain ⟨⟨cls,dd,data,sl⟩,ho,hc,n,hd⟩:=id hl
 obtain ⟨⟨cls2,dd2,data2,sl2⟩,ho2,hc2,n2,hd2⟩:=id hb
 simp only at hc hd hc2 hd2
 subst hc hd hc2 hd2
 exact richCompare_meets_room (op:=.Lt) ⟨_,ho,rfl⟩ ⟨_,ho2,rfl⟩ PySem.F.slot_tuple_lt PySem.F.entry_tuple_lt (PySem.F.args_tuple_lt_2 _ _) (zfn l b items items2 n n2 dd dd2 sl sl2 ns ms hi hj)
  ⟨ho,ho2,show Value.bool (lexLt ns ms) ≠ Value.notImplemented ∧ Q (.bool (lexLt ns ms)) s from ⟨(fun x=>nomatch x),h⟩⟩ hu
theorem cat_tup {t b:Addr} {vs ws:List Value} {Q:Value → Shared → Prop} (ht:IsTup s.heap t vs.toArray) (hb:IsTup s.heap b ws.toArray) (hv:vs ≠ [])
  (h1:ws = [] → Q (.ref t) s) (h2:ws ≠ [] → Q (.ref s.heap.objs.size) { s with heap:=s.heap.push { cls:=.type "tuple", data:=.seq (vs ++ ws).toArray } })
  (hsz:vs.length + ws.length ≤ sizeLine) : wpAny (model prog w) A (binaryOp .Add (.ref t) (.ref b)) Q E s:=by
 obtain ⟨⟨cls,dd,data,sl⟩,ho,hc,n,hd⟩:=id ht
 obtain ⟨⟨cls2,dd2,data2,sl2⟩,ho2,hc2,n2,hd2⟩:=id hb
 simp only at hc hd hc2 hd2
 subst hc hd hc2 hd2
 have e:vs.toArray ++ ws.toArray = (vs ++ ws).toArray:=by simp
 by_cases hw:ws = []
 ·exact concat_meets ⟨_,ho,rfl⟩ ⟨_,ho2,rfl⟩ noFill_tuple_add seq_tuple_add PySem.F.slot_tuple_add PySem.F.entry_tuple_add (PySem.F.args_tuple_add_2 _ _)
   (tuple_addW1 t b vs.toArray ws.toArray n n2 dd dd2 sl sl2 (by simpa using hv) (by simp [hw])) ⟨ho,ho2,h1 hw⟩
 ·refine concat_meets ⟨_,ho,rfl⟩ ⟨_,ho2,rfl⟩ noFill_tuple_add seq_tuple_add PySem.F.slot_tuple_add PySem.F.entry_tuple_add (PySem.F.args_tuple_add_2 _ _)
   (tuple_addW2 t b vs.toArray ws.toArray n n2 dd dd2 sl sl2 (by simpa using hv) (by simpa using hw) (by rw [List.size_toArray,List.size_toArray]; exact hsz)) ⟨ho,ho2,?_⟩
  rw [e]
  exact h2 hw
def sIx (n d:Nat) : Option Int → Nat
 | none=>d
 | some v=>if v < 0 then (v + (n:Int)).toNat else min v.toNat n
theorem sIx_nat (n d k:Nat) : sIx n d (some (k:Int)) = min k n:=by
 show (if (k:Int) < 0 then ((k:Int) + (n:Int)).toNat else min (k:Int).toNat n) = min k n
 rw [if_neg (by omega),Int.toNat_natCast]
theorem znS (n d:Nat) (hd:d ≤ n) (o:Option Int) : sIx n d o ≤ n:=by
 cases o with
 | none=>exact hd
 | some v =>
  show (if v < 0 then (v + (n:Int)).toNat else min v.toNat n) ≤ n
  by_cases hv:v < 0
  ·rw [if_pos hv]; omega
  ·rw [if_neg hv]; exact Nat.min_le_right _ _
theorem zjZ (v:Int) (n d:Nat) : (if v < 0 then max (v + (n:Int)) 0 else min v (n:Int)) = ((sIx n d (some v) : Nat) : Int):=by
 show (if v < 0 then max (v + (n:Int)) 0 else min v (n:Int)) = (((if v < 0 then (v + (n:Int)).toNat else min v.toNat n) : Nat) : Int)
 by_cases hv:v < 0
 ·simp only [if_pos hv]; omega
 ·simp only [if_neg hv]; omega
theorem zh7 (lo hi:Option Int) (n:Nat) : Builtin.Slice.sliceAdjust lo hi 1 (n:Int) = (((sIx n 0 lo:Nat) : Int),((sIx n n hi:Nat) : Int)):=by
 have h1 : ¬ ((1:Int) < 0):=by omega
 unfold Builtin.Slice.sliceAdjust
 simp only [h1,if_false]
 refine Prod.ext ?_ ?_
 ·cases lo with
  | none=>rfl
  | some v=>exact zjZ v n 0
 ·cases hi with
  | none=>rfl
  | some v=>exact zjZ v n n
theorem zih (i j:Nat) : Builtin.Slice.slicePlaces (i:Int) (j:Int) 1 = j - i:=by
 unfold Builtin.Slice.slicePlaces
 have h1:(1:Int) > 0:=by omega
 simp only [h1,if_true,Int.ediv_one]
 split <;> omega
theorem ze0 {v:Value} {o:Option Int} {Q:Option Int → Shared → Prop} (p:IsPart v o) (h:Q o s) : wpAny (model prog w) A (Builtin.Slice.slicePartIndex v) Q E s:=by
 cases p with
 | none=>exact slicePart_none h
 | int i t=>exact slicePart_int h
theorem zdJ {sl:Addr} {vl vu:Value} {lo hi:Option Int} {n:Nat} {Q:Int × Int × Nat → Shared → Prop} (hs:s.heap.IsSliceOf sl vl vu .none) (pl:IsPart vl lo) (pu:IsPart vu hi)
  (h:Q (((sIx n 0 lo:Nat) : Int),1,sIx n n hi - sIx n 0 lo) s) : wpAny (model prog w) A (Builtin.Slice.sliceApplied (.ref sl) (pure (n:Int))) Q E s:=by
 obtain ⟨os,hos,hcs,hds⟩:=id hs
 unfold Builtin.Slice.sliceApplied Builtin.Slice.sliceFields
 refine wpAny_bind (wpAny_bind (wpAny_field hos hds (x:=vl) rfl (wpAny_bind (wpAny_field hos hds (x:=vu) rfl (wpAny_bind (wpAny_field hos hds (x:=.none) rfl (wpAny_pure ?_)))))))
 refine wpAny_bind (slicePart_none ?_)
 show wpAny _ _ (if ((1:Int) == 0) = true then _ else _) _ _ s
 rw [if_neg (by decide)]
 refine wpAny_bind (ze0 pl (wpAny_bind (ze0 pu (wpAny_bind (wpAny_pure ?_)))))
 show wpAny _ _ (match Builtin.Slice.sliceAdjust lo hi 1 (n:Int) with | (lo,hi)=>pure (lo,(1:Int),Builtin.Slice.slicePlaces lo hi 1)) _ _ s
 rw [zh7 lo hi n]
 show wpAny _ _ (pure (((sIx n 0 lo:Nat) : Int),(1:Int),Builtin.Slice.slicePlaces ((sIx n 0 lo:Nat) : Int) ((sIx n n hi:Nat) : Int) 1)) _ _ s
 rw [zih]
 exact wpAny_pure h
theorem zkI (xs:Array Value) (i k:Nat) : ((List.range k).filterMap fun (m:Nat)=>xs[((i:Int) + (m:Int) * 1).toNat]?).toArray = ((xs.toList.drop i).take k).toArray:=by
 have e:(fun (m:Nat)=>xs[((i:Int) + (m:Int) * 1).toNat]?) = fun m=>xs[i + m]?:=by
  funext m
  have:((i:Int) + (m:Int) * 1).toNat = i + m:=by omega
  rw [this]
 rw [e]
 have:=pick_run xs i k
 rw [List.filterMap_map] at this
 have e2:((fun x=>xs[x]?) ∘ fun x=>i + x) = fun m=>xs[i + m]?:=rfl
 rw [e2] at this
 rw [this]
theorem getItem_tuple_cut {t sl:Addr} {items:Array Value} {vl vu:Value} {lo hi:Option Int} {Q:Value → Shared → Prop} (ht:IsTup s.heap t items) (hs:s.heap.IsSliceOf sl vl vu .none) (pl:IsPart vl lo) (pu:IsPart vu hi)
  (hw : ¬ (sIx items.size 0 lo = 0 ∧ sIx items.size items.size hi = items.size))
  (h:Q (.ref s.heap.objs.size) { s with heap:=s.heap.push { cls:=.type "tuple", data:=.seq ((items.toList.drop (sIx items.size 0 lo)).take (sIx items.size items.size hi - sIx items.size 0 lo)).toArray } })
  (hsz:items.size ≤ sizeLine) : wpAny (model prog w) A (getItem (.ref t) (.ref sl)) Q E s:=by
 have htake:sizeOk (.seq ((items.toList.drop (sIx items.size 0 lo)).take (sIx items.size items.size hi - sIx items.size 0 lo)).toArray):=by
  show ((items.toList.drop (sIx items.size 0 lo)).take (sIx items.size items.size hi - sIx items.size 0 lo)).toArray.size ≤ sizeLine
  rw [List.size_toArray,List.length_take,List.length_drop,Array.length_toList]
  omega
 have hj:sIx items.size items.size hi ≤ items.size:=znS _ _ (Nat.le_refl _) hi
 obtain ⟨os,hos,hcs,hds⟩:=id hs
 have hTs:s.TypeIs (.ref sl) "slice" := ⟨os,hos,hcs⟩
 unfold getItem
 try with_reducible refine wpAny_holding ?_
 first | refine wpAny_bind (wpAny_pure ?_) | skip
 refine wpAny_bind (wpAny_sequenceKey ht.typeIs (by decide) ?_)
 refine wpAny_bind (wpAny_callSpecial?_slot (name:=Str.ofString "__getitem__") ht.typeIs PyProof.Rows.slot_tuple_getitem
  (wpAny_call_entry PyProof.Rows.slot_tuple_getitem ht.typeIs entry_tuple_getitem ?_ (args_tuple_getitem _ _)))
 show wpAny _ _ (Builtin.Tuple.tupleItemsOf (.ref t) >>= _) _ _ s
 refine wpAny_bind (tupleItemsOf_ ht ?_)
 refine wpAny_bind (wpAny_typeOf hTs ?_)
 rw [if_pos (by decide)]
 refine wpAny_bind (zdJ hs pl pu ?_)
 have hno : ¬ ((((sIx items.size 0 lo:Nat) : Int) == 0 && (1:Int) == 1 && (sIx items.size items.size hi - sIx items.size 0 lo) == items.size) = true):=by
  intro q
  rw [Bool.and_eq_true,Bool.and_eq_true] at q
  have q1:((sIx items.size 0 lo:Nat) : Int) = 0:=eq_of_beq q.1.1
  have q2:sIx items.size items.size hi - sIx items.size 0 lo = items.size:=eq_of_beq q.2
  exact hw ⟨by omega,by omega⟩
 show wpAny _ _ (if (((sIx items.size 0 lo:Nat) : Int) == 0 && (1:Int) == 1 && (sIx items.size items.size hi - sIx items.size 0 lo) == items.size) = true then _ else _) _ _ s
 rw [if_neg hno,zkI]
 first
  | exact wpAny_bind (m:=Builtin.Tuple.tupleExact _) (wpAny_newObj_type (wpAny_pure ⟨_,rfl,wpAny_pure h⟩) htake)
  | exact wpAny_bind (m:=Builtin.Tuple.tupleExact _) (wpAny_newObj_type (wpAny_bind (wpAny_pure (wpAny_pure ⟨_,rfl,wpAny_pure h⟩))) htake)
  | exact wpAny_bind (wpAny_bind (m:=Builtin.Tuple.tupleExact _) (wpAny_newObj_type (wpAny_pure (wpAny_pure ⟨_,rfl,wpAny_pure h⟩)) htake))
  | exact wpAny_bind (wpAny_bind (m:=Builtin.Tuple.tupleExact _) (wpAny_newObj_type (wpAny_pure ⟨_,rfl,wpAny_pure h⟩) htake))
end
end HT
namespace L2
open PySem PySem.Spec PyProof.Rows
abbrev TO:=St → Hp → (Option Int → Hp → Prop) → Prop
def PO (X:Cx) (e:Option Expr) (t:TO) : Prop :=
 ∀ (pins:List (Addr × Obj)) (s:Shared) (σ:St) (H:Hp) (Q:Option Int → Hp → Prop),Inv X pins σ H s → t σ H Q →
  wpAny (model X.prog X.w) X.A (evalPart e X.env) (fun u s'=>∃ o H',Inv X pins σ H' s' ∧ IsPart u o ∧ Q o H') X.xe s
def zcl:TO:=fun _ H Q=>Q none H
def zeL (t:TE) : TO:=fun σ H Q=>t σ H fun x H1=>∃ i,x = .int i ∧ Q (some i) H1
theorem intsAre_of {ns:List Int} : ∀ {us:List Value},Vals (ns.map V.int) us → IntsAre us ns:=by
 induction ns with
 | nil=>intro us r; rw [List.map_nil] at r; cases r; exact .nil
 | cons n ns ih =>
  intro us r
  rw [List.map_cons] at r
  cases r with
  | cons r1 r2 =>
   obtain ⟨t,e⟩:=r1
   subst e
   exact .cons n t (ih r2)
section
variable {X:Cx} {e:Expr} {te:TE} {lo hi:Option Expr} {tl th:TO} {pos p2:Pos}
theorem zfR:PO X none zcl:=by
 intro pins s σ H Q I h
 rw [evalPart_none]
 exact wpAny_pure ⟨none,H,I,.none,h⟩
theorem zdp (h:PE X e te) : PO X (some e) (zeL te):=by
 intro pins s σ H Q I hw
 rw [evalPart_some]
 refine thn (h pins s σ H _ I hw) fun u s1 ⟨x,H1,I1,r1,q1⟩=>?_
 obtain ⟨i,rfl,q⟩:=q1
 obtain ⟨t,rfl⟩:=r1
 exact ⟨some i,H1,I1,.int i t,q⟩
def SlR (X:Cx) (r:V → Option Int → Option Int → Hp → VK → Prop) : Prop :=
 ∀ (pins:List (Addr × Obj)) (s:Shared) (σ:St) (H:Hp) (x:V) (v vl vu:Value) (lo hi:Option Int) (sl:Addr) (Q:VK),Inv X pins σ H s → RelV x v → s.heap.IsSliceOf sl vl vu .none → IsPart vl lo → IsPart vu hi → r x lo hi H Q →
  ∃ T id,typeLookup (.type T) "__getitem__" = pure (some (.builtin id)) ∧ s.TypeIs v T ∧ wpAny (model X.prog X.w) X.A (getItem v (.ref sl)) (EP X pins σ Q) X.xe s
def tSl (r:V → Option Int → Option Int → Hp → VK → Prop) (te:TE) (tl th:TO) : TE:=fun σ H Q=>te σ H fun x H1=>tl σ H1 fun l H2=>th σ H2 fun u H3=>r x l u H3 Q
theorem zdf {r:V → Option Int → Option Int → Hp → VK → Prop} (hr:SlR X r) (he:PE X e te) (hl:PO X lo tl) (hu:PO X hi th) : PE X (.Subscript e (.Slice lo hi none p2) pos) (tSl r te tl th):=by
 intro pins s σ H Q I h
 refine Subscript_ (thn (he pins s σ H _ I h) fun v s1 ⟨x,H1,I1,r1,q1⟩=>?_)
 refine wpAny_Slice (thn (hl pins s1 σ H1 _ I1 q1) fun vl s2 ⟨l,H2,I2,pl,q2⟩=>thn (hu pins s2 σ H2 _ I2 q2) fun vu s3 ⟨u,H3,I3,pu,q3⟩=>?_)
 rw [evalPart_none]
 refine wpAny_pure ?_
 have I4:Inv X pins σ H3 { s3 with heap:=s3.heap.push { cls:=.type "slice", data:=.fields #[vl,vu,.none] } }:=I3.kept (t':=s3.toks) fun b ob q=>Heap.get?_push_of_some _ q
 obtain ⟨T,id,hT,ht,hg⟩:=hr pins { s3 with heap:=s3.heap.push { cls:=.type "slice", data:=.fields #[vl,vu,.none] } } σ H3 x v vl vu l u s3.heap.objs.size Q I4 r1 (Heap.IsSliceOf.new ..) pl pu q3
 show wpAny (model X.prog X.w) X.A (subscriptTail e (.Slice lo hi none p2) v (.ref s3.heap.objs.size)) (EP X pins σ Q) X.xe { s3 with heap:=s3.heap.push { cls:=.type "slice", data:=.fields #[vl,vu,.none] } }
 exact tail_any (ops:=[.ref s3.heap.objs.size,v]) ht hT hg (by with_unfolding_all rfl)
def cutV (xs:List V) (lo hi:Option Int) : List V:=(xs.drop (HT.sIx xs.length 0 lo)).take (HT.sIx xs.length xs.length hi - HT.sIx xs.length 0 lo)
theorem zd2 (xs:List V) (lo hi:Option Int) : (cutV xs lo hi).length ≤ xs.length:=by
 unfold cutV
 rw [List.length_take,List.length_drop]
 omega
def rSlT (K:PySem.W.Frag) : V → Option Int → Option Int → Hp → VK → Prop:=fun x lo hi H Q=>∃ a xs,x = .ref a ∧ SqT K H a xs ∧
 ¬ (HT.sIx xs.length 0 lo = 0 ∧ HT.sIx xs.length xs.length hi = xs.length) ∧ ∀ p,H p = none → Q (.ref p) (upd H p (.tup (cutV xs lo hi)))
theorem zn4:SlR X (rSlT X.K):=by
 intro pins s σ H x v vl vu lo hi sl Q I rx hs pl pu h
 obtain ⟨a,xs,rfl,hx,hw,q⟩:=h
 cases rx
 obtain ⟨its,r,ht,hz⟩:=I.tuple hx
 have hlen:its.toArray.size = xs.length:=by rw [List.size_toArray]; exact r.length.symm
 refine ⟨"tuple", _,PyProof.Rows.slot_tuple_getitem.lookup,ht.typeIs,?_⟩
 refine HT.getItem_tuple_cut ht hs pl pu (by rw [hlen]; exact hw) ?_ (by rw [hlen]; exact hz)
 rw [hlen]
 refine ⟨.ref s.heap.objs.size,_,I.laid (t':=s.toks) (o:=.tup (cutV xs lo hi)) (fun b ob q=>Heap.get?_push_of_some _ q) (Nat.le_refl _) ?_,rfl,q _ (I.hok.fresh (Nat.le_refl _))⟩
 exact ⟨Nat.le_trans (zd2 xs lo hi) hz,_,(r.drop (HT.sIx xs.length 0 lo)).take (HT.sIx xs.length xs.length hi - HT.sIx xs.length 0 lo),IsTup.new _ _⟩
def rLtT (K:PySem.W.Frag) : R2:=fun x y H Q=>∃ a b ns ms,x = .ref a ∧ y = .ref b ∧ SqT K H a (ns.map V.int) ∧ SqT K H b (ms.map V.int) ∧ Q (.bl (HT.lexLt ns ms)) H
theorem zok (hu:X.A.units < cLine) : OpR X (compareOp .Lt) (rLtT X.K):=by
 intro pins s σ H x y v u Q I rx ry h
 obtain ⟨a,b,ns,ms,rfl,rfl,ha,hb,q⟩:=h
 cases rx
 cases ry
 obtain ⟨its,r1,p1,_⟩:=I.tuple ha
 obtain ⟨its2,r2,p2,_⟩:=I.tuple hb
 have i1:IntsAre its.toArray.toList ns:=intsAre_of r1
 have i2:IntsAre its2.toArray.toList ms:=intsAre_of r2
 exact HT.lt_tupInts p1 p2 i1 i2 hu ⟨.bl (HT.lexLt ns ms),H,I,rfl,q⟩
def zov (K:PySem.W.Frag) : R2:=fun x y H Q=>∃ a b xs ys,x = .ref a ∧ y = .ref b ∧ SqT K H a xs ∧ SqT K H b ys ∧ xs ≠ [] ∧ xs.length + ys.length ≤ sizeLine ∧
 (ys = [] → Q (.ref a) H) ∧ (ys ≠ [] → ∀ p,H p = none → Q (.ref p) (upd H p (.tup (xs ++ ys))))
theorem Vals.nil_iff {xs:List V} {us:List Value} (r:Vals xs us) : us = [] ↔ xs = []:=by
 cases r with
 | nil=>simp
 | cons _ _=>simp
theorem zmd:OpR X (binaryOp .Add) (zov X.K):=by
 intro pins s σ H x y v u Q I rx ry h
 obtain ⟨a,b,xs,ys,rfl,rfl,ha,hb,hx,hz,q1,q2⟩:=h
 cases rx
 cases ry
 obtain ⟨its,r1,p1,_⟩:=I.tuple ha
 obtain ⟨its2,r2,p2,_⟩:=I.tuple hb
 refine HT.cat_tup p1 p2 (fun z=>hx (r1.nil_iff.mp z)) (fun z=>⟨.ref a,H,I,rfl,q1 (r2.nil_iff.mp z)⟩) (fun z=>?_) (by rw [← r1.length,← r2.length]; exact hz)
 refine ⟨.ref s.heap.objs.size,_,I.laid (t':=s.toks) (o:=.tup (xs ++ ys)) (fun b ob q=>Heap.get?_push_of_some _ q) (Nat.le_refl _) ?_,rfl,q2 (fun w=>z (r2.nil_iff.mpr w)) _ (I.hok.fresh (Nat.le_refl _))⟩
 exact ⟨by rw [List.length_append]; exact hz,_,r1.append r2,IsTup.new _ _⟩
end
end L2
namespace L2
open PySem PySem.Spec PyProof.Rows
def ixN (n:Nat) (i:Int) : Option Nat:=if 0 ≤ i then (if i < n then some i.toNat else none) else if -(n:Int) ≤ i then some (i + n).toNat else none
def atI {α:Type} (xs:List α) (i:Int) : Option α:=(ixN xs.length i).bind fun j=>xs[j]?
theorem zjY {n:Nat} {i:Int} {j:Nat} (h:ixN n i = some j) : seqIndex? i n = some j ∧ j < n ∧ -(n:Int) ≤ i ∧ i < n:=by
 unfold ixN at h
 by_cases h0:0 ≤ i
 ·rw [if_pos h0] at h
  by_cases h1:i < n
  ·rw [if_pos h1] at h
   have e:i.toNat = j:=Option.some.inj h
   exact ⟨by rw [seqIndex_of h0 h1,e],by omega,by omega,h1⟩
  ·rw [if_neg h1] at h; cases h
 ·rw [if_neg h0] at h
  by_cases h1 : -(n:Int) ≤ i
  ·rw [if_pos h1] at h
   have e:(i + n).toNat = j:=Option.some.inj h
   exact ⟨by rw [seqIndex_neg (by omega) h1,e],by omega,h1,by omega⟩
  ·rw [if_neg h1] at h; cases h
theorem zgT {α:Type} {xs:List α} {i:Int} {v:α} (h:atI xs i = some v) : ∃ j,seqIndex? i xs.length = some j ∧ xs[j]? = some v ∧ j < xs.length ∧ -(xs.length:Int) ≤ i ∧ i < xs.length:=by
 unfold atI at h
 cases e:ixN xs.length i with
 | none=>rw [e] at h; cases h
 | some j =>
  rw [e] at h
  obtain ⟨h1,h2,h3,h4⟩:=zjY e
  exact ⟨j,h1,h,h2,h3,h4⟩
theorem za1 {α:Type} {xs:List α} {j:Nat} {v:α} (h:xs[j]? = some v) : atI xs (j:Int) = some v:=by
 have hj:j < xs.length:=(List.getElem?_eq_some_iff.mp h).1
 have e:ixN xs.length (j:Int) = some j:=by
  unfold ixN
  rw [if_pos (by omega),if_pos (by omega)]; simp
 unfold atI; rw [e]; exact h
theorem zda {α:Type} (xs:List α) (v:α) : atI (xs ++ [v]) (-1) = some v:=by
 have hl:(xs ++ [v]).length = xs.length + 1:=by simp
 have e:ixN (xs ++ [v]).length (-1) = some xs.length:=by
  unfold ixN
  rw [hl,if_neg (by decide),if_pos (by omega)]
  congr 1
  omega
 unfold atI
 rw [e]
 show (xs ++ [v])[xs.length]? = some v
 simp
def zmC (b:Expr) : Prop:=∀ o i,subscripted b false o i = operate [o,i] (getItem o i)
def IxR (X:Cx) (r:R2) : Prop :=
 ∀ (value slice:Expr) (pins:List (Addr × Obj)) (s:Shared) (σ:St) (H:Hp) (x y:V) (v u:Value) (Q:VK),Inv X pins σ H s → RelV x v → RelV y u → r x y H Q →
  subscripted slice false v u = operate [v,u] (getItem v u) → wpAny (model X.prog X.w) X.A (subscriptTail value slice v u) (EP X pins σ Q) X.xe s
def MtR (X:Cx) (id:String) (r:V → List V → Hp → VK → Prop) : Prop :=
 ∀ (pins:List (Addr × Obj)) (s:Shared) (σ:St) (H:Hp) (x:V) (xs:List V) (v:Value) (us:List Value) (Q:VK),Inv X pins σ H s → RelV x v → Vals xs us → r x xs H Q →
  wpAny (model X.prog X.w) X.A (call (.builtin id) (v :: us)) (EP X pins σ Q) X.xe s
section
variable {X:Cx} {a b:Expr} {ta tb:TE} {pos:Pos}
theorem zoL {r:R2} (hr:IxR X r) (ha:PE X a ta) (hb:PE X b tb) (hs:zmC b) : PE X (.Subscript a b pos) (tOp r ta tb):=by
 intro pins s σ H Q I h
 exact Subscript_ (binT ha hb I h fun v u s2 x y H2 I2 rx ry q=>hr a b pins s2 σ H2 x y v u Q I2 rx ry q (hs _ _))
def rIxL (K:PySem.W.Frag) : R2:=fun x y H Q=>∃ p xs i v,x = .ref p ∧ y = .int i ∧ SqL K H p xs ∧ atI xs i = some v ∧ Q v H
def rIxT (K:PySem.W.Frag) : R2:=fun x y H Q=>∃ p xs i v,x = .ref p ∧ y = .int i ∧ SqT K H p xs ∧ atI xs i = some v ∧ Q v H
def rIxS:R2:=fun x y H Q=>∃ z i c,x = .str z ∧ y = .int i ∧ z.length ≤ sizeLine ∧ atI z.cps.toList i = some c ∧ Q (.str ⟨#[c]⟩) H
theorem zlO:IxR X (rIxL X.K):=by
 intro value slice pins s σ H x y v u Q I rx ry h hs
 obtain ⟨p,xs,i,z,rfl,rfl,hq,he,q⟩:=h
 cases rx
 obtain ⟨t,rfl⟩:=ry
 obtain ⟨its,r,pl,hz⟩:=I.list hq
 obtain ⟨j,h1,h2,h3,h4,h5⟩:=zgT he
 obtain ⟨w,ew,rw'⟩:=r.get h2
 have hl:=r.length
 have hn:=zek
 have fin:EP X pins σ Q w s:=⟨z,H,I,rw',q⟩
 by_cases h0:0 ≤ i
 ·have hj:i.toNat = j:=by
   rw [seqIndex_of h0 h5] at h1
   exact Option.some.inj h1
  exact item_listR pl.isList h0 (by omega) (by rw [hj]; simpa using ew) fin hs
 ·have hj:(i + (its.toArray.size:Int)).toNat = j:=by
   rw [seqIndex_neg (by omega) h4] at h1
   rw [List.size_toArray,← hl]
   exact Option.some.inj h1
  exact subscriptTail_builtinR (x:=w) pl.isList.typeIs slot_list_getitem.lookup
   (wpAny_getItem_list_neg (Q:=fun r s'=>r = w ∧ EP X pins σ Q r s') pl.isList (by omega) (by rw [List.size_toArray] <;> omega) (by omega) (by rw [hj]; simpa using ew) ⟨rfl,fin⟩) hs
theorem znF:IxR X (rIxT X.K):=by
 intro value slice pins s σ H x y v u Q I rx ry h hs
 obtain ⟨p,xs,i,z,rfl,rfl,hq,he,q⟩:=h
 cases rx
 obtain ⟨t,rfl⟩:=ry
 obtain ⟨its,r,pl,hz⟩:=I.tuple hq
 obtain ⟨j,h1,h2,h3,h4,h5⟩:=zgT he
 obtain ⟨w,ew,rw'⟩:=r.get h2
 have hl:=r.length
 have hn:=zek
 have fin:EP X pins σ Q w s:=⟨z,H,I,rw',q⟩
 exact subscriptTail_builtinR (x:=w) pl.typeIs slot_tuple_getitem.lookup
  (getItem_tuple (j:=j) (Q:=fun r s'=>r = w ∧ EP X pins σ Q r s') pl (by omega) (by omega) (by rw [List.size_toArray,← hl]; exact h1) (by simpa using ew) ⟨rfl,fin⟩) hs
theorem znD:IxR X rIxS:=by
 intro value slice pins s σ H x y v u Q I rx ry h hs
 obtain ⟨z,i,c,rfl,rfl,hz,he,q⟩:=h
 obtain ⟨t,rfl⟩:=rx
 obtain ⟨t',rfl⟩:=ry
 obtain ⟨j,h1,h2,h3,h4,h5⟩:=zgT he
 have hl:z.cps.toList.length = z.length:=by simp [Str.length]
 rw [hl] at h1 h4 h5
 have hn:=zek
 exact tail_any (typeIs_str s z t) slot_str_getitem.lookup (getItem_str (c:=c) (by
  have e1:decide (i < -(2 ^ 63:Int)) = false:=decide_eq_false (by omega)
  have e2:decide (i ≥ 2 ^ 63) = false:=decide_eq_false (by omega)
  rw [e1,e2,Bool.or_false]) (by rw [h1]; simpa using h2) ⟨.str ⟨#[c]⟩,H,I.tok _,⟨_,rfl⟩,q⟩) hs
theorem zik (its:List Value) (n j:Nat) (u:Value) : Obj.mapSeq (·.setIfInBounds j u) { cls:=.type "list", data:=.seq its.toArray n } = { cls:=.type "list", data:=.seq (its.set j u).toArray n }:=by
 simp [Obj.mapSeq]
theorem Inv.lst {pins:List (Addr × Obj)} {σ:St} {H:Hp} {s:Shared} {p:Addr} {xs:List V} (I:Inv X pins σ H s) (h:H p = some (.lst xs)) :
  ∃ (its:List Value) (n:Nat),Vals xs its ∧ s.heap.get? p = some { cls:=.type "list", data:=.seq its.toArray n } ∧ xs.length ≤ sizeLine:=by
 obtain ⟨z,its,n,r,e⟩:=I.hok p _ h
 exact ⟨its,n,r,e,z⟩
theorem Inv.lstUpd {pins:List (Addr × Obj)} {σ:St} {H:Hp} {s:Shared} {p:Addr} {xs ys:List V} {its its':List Value} {n n':Nat} {f:Obj → Obj} (I:Inv X pins σ H s) (h:H p = some (.lst xs))
  (ho:s.heap.get? p = some { cls:=.type "list", data:=.seq its.toArray n }) (hf:f { cls:=.type "list", data:=.seq its.toArray n } = { cls:=.type "list", data:=.seq its'.toArray n' }) (r:Vals ys its') (hz:ys.length ≤ sizeLine) (t:Nat) :
  Inv X pins σ (upd H p (.lst ys)) { s with heap:=s.heap.update p f,toks:=t }:=by
 have e:(s.heap.update p f).get? p = some { cls:=.type "list", data:=.seq its'.toArray n' }:=by
  rw [Heap.get?_update_self f ho (by rw [hf] <;> rfl),hf]
 refine I.write (x:=p) (e:=p) (by rw [h]; trivial) (.inl rfl) (fun b u hb q=>(Heap.get?_update_other _ _ (Ne.symm hb)).trans q) ⟨_,e⟩ ?_
 exact ⟨hz,its',n',r,e⟩
def znL:V → V → V → Hp → (Hp → Prop) → Prop:=fun o i v H Q=>∃ p xs k j,o = .ref p ∧ i = .int k ∧ H p = some (.lst xs) ∧ ixN xs.length k = some j ∧ Q (upd H p (.lst (xs.set j v)))
theorem set_list:PSet X znL:=by
 intro pins s σ H o i v ov iv u Q I ro ri rv h
 obtain ⟨p,xs,k,j,rfl,rfl,hp,hj,q⟩:=h
 cases ro
 obtain ⟨t,rfl⟩:=ri
 obtain ⟨its,n,r,ho,hz⟩:=I.lst hp
 obtain ⟨h1,h2,h3,h4⟩:=zjY hj
 have hl:=r.length
 have hn:=zek
 have I':Inv X pins σ (upd H p (.lst (xs.set j v))) { s with heap:=s.heap.update p (Obj.mapSeq (·.setIfInBounds j u)) } :=
  I.lstUpd hp ho (zik its n j u) (r.set rv j) (by rw [List.length_set]; exact hz) s.toks
 by_cases h0:0 ≤ k
 ·have hk:k.toNat = j:=by
   rw [seqIndex_of h0 h4] at h1
   exact Option.some.inj h1
  exact PySem.W.ki_setAt ho h0 (by omega) (by rw [List.size_toArray,← hl]; exact h4) (by rw [hk]; exact ⟨_,I',q⟩)
 ·have hk:(k + (its.toArray.size:Int)).toNat = j:=by
   rw [seqIndex_neg (by omega) h3] at h1
   rw [List.size_toArray,← hl]
   exact Option.some.inj h1
  exact PySem.W.ki_setBack ho (by omega) (by rw [List.size_toArray,← hl]; exact h3) (by omega) (by rw [hk]; exact ⟨_,I',q⟩)
theorem zgp (lo hi:Option Int) (n:Nat) : (sliceBounds lo hi none n).1 = ((HT.sIx n 0 lo:Nat) : Int) ∧ (sliceBounds lo hi none n).2.1 = ((HT.sIx n n hi:Nat) : Int) ∧ (sliceBounds lo hi none n).2.2 = 1:=by
 refine ⟨?_,?_,rfl⟩
 ·cases lo with
  | none=>simp [sliceBounds,HT.sIx]
  | some i =>
   simp only [sliceBounds,HT.sIx,Option.getD_none,show (1:Int) > 0 by decide,if_true]
   by_cases h:i < 0
   ·simp only [h,if_true] <;> omega
   ·simp only [h,if_false] <;> omega
 ·cases hi with
  | none=>simp [sliceBounds,HT.sIx]
  | some i =>
   simp only [sliceBounds,HT.sIx,Option.getD_none,show (1:Int) > 0 by decide,if_true]
   by_cases h:i < 0
   ·simp only [h,if_true] <;> omega
   ·simp only [h,if_false] <;> omega
theorem zfD (its:List Value) (lo hi:Option Int) : slicePick its.toArray lo hi none = ((its.drop (HT.sIx its.length 0 lo)).take (HT.sIx its.length its.length hi - HT.sIx its.length 0 lo)).toArray:=by
 obtain ⟨h1,h2,h3⟩:=zgp lo hi its.toArray.size
 unfold slicePick
 rw [h1,h2,h3]
 simp only [sliceRange_one,pick_run,List.size_toArray] <;> rfl
def rSlL (K:PySem.W.Frag) : V → Option Int → Option Int → Hp → VK → Prop:=fun x lo hi H Q=>∃ a xs,x = .ref a ∧ SqL K H a xs ∧ ∀ p,H p = none → Q (.ref p) (upd H p (.lst (cutV xs lo hi)))
theorem ziM:SlR X (rSlL X.K):=by
 intro pins s σ H x v vl vu lo hi sl Q I rx hs pl pu h
 obtain ⟨a,xs,rfl,hx,q⟩:=h
 cases rx
 obtain ⟨its,r,ht,hz⟩:=I.list hx
 have hlen:=r.length
 refine ⟨"list", _,slot_list_getitem.lookup,ht.isList.typeIs,?_⟩
 refine wpAny_getItem_list_slice ht.isList hs pl pu .none (by simp) ?_ (by rw [List.size_toArray] <;> omega)
 rw [zfD,← hlen]
 refine ⟨.ref s.heap.objs.size,_,I.laid (t':=s.toks) (o:=.lst (cutV xs lo hi)) (fun b ob q=>Heap.get?_push_of_some _ q) (Nat.le_refl _) ?_,rfl,q _ (I.hok.fresh (Nat.le_refl _))⟩
 exact ⟨Nat.le_trans (zd2 xs lo hi) hz,_,0,(r.drop (HT.sIx xs.length 0 lo)).take (HT.sIx xs.length xs.length hi - HT.sIx xs.length 0 lo),Heap.get?_push_size _ rfl⟩
def zfV:V → Bool
 | .non=>true
 | .bl _=>true
 | .int _=>true
 | .str _=>true
 | _=>false
def eqV:V → V → Bool
 | .non,.non=>true
 | .bl a,.bl b=>a == b
 | .bl a,.int b=>(if a then 1 else 0) == b
 | .int a,.bl b=>a == (if b then 1 else 0)
 | .int a,.int b=>a == b
 | .str a,.str b=>a == b
 | _,_=>false
theorem znU {A:Around} {s:Shared} {y x:V} {u v:Value} (ry:RelV y u) (rx:RelV x v) (fy:zfV y = true) (fx:zfV x = true) : SeqAt.EqAt A s u v (eqV y x):=by
 cases y with
 | non =>
  cases ry
  cases x with
  | non=>cases rx; exact SeqAt.EqAt.same _
  | bl b=>cases rx; exact SeqAt.EqAt.none_bool b
  | int b=>obtain ⟨t,rfl⟩:=rx; exact SeqAt.EqAt.none_int b t
  | str b=>obtain ⟨t,rfl⟩:=rx; exact SeqAt.EqAt.none_str b t
  | _=>exact absurd (show false = true from fx) Bool.false_ne_true
 | bl a =>
  cases ry
  cases x with
  | non=>cases rx; exact SeqAt.EqAt.bool_none a
  | bl b=>cases rx; exact SeqAt.EqAt.bool_bool a b
  | int b=>obtain ⟨t,rfl⟩:=rx; exact SeqAt.EqAt.bool_int a b t
  | str b=>obtain ⟨t,rfl⟩:=rx; exact SeqAt.EqAt.bool_str a b t
  | _=>exact absurd (show false = true from fx) Bool.false_ne_true
 | int a =>
  obtain ⟨t',rfl⟩:=ry
  cases x with
  | non=>cases rx; exact SeqAt.EqAt.int_none a t'
  | bl b=>cases rx; exact SeqAt.EqAt.int_bool a t' b
  | int b=>obtain ⟨t,rfl⟩:=rx; exact SeqAt.EqAt.int_int a t' b t
  | str b=>obtain ⟨t,rfl⟩:=rx; exact SeqAt.EqAt.int_str a t' b t
  | _=>exact absurd (show false = true from fx) Bool.false_ne_true
 | str a =>
  obtain ⟨t',rfl⟩:=ry
  cases x with
  | non=>cases rx; exact SeqAt.EqAt.str_none a t'
  | bl b=>cases rx; exact SeqAt.EqAt.str_bool a t' b
  | int b=>obtain ⟨t,rfl⟩:=rx; exact SeqAt.EqAt.str_int a t' b t
  | str b=>obtain ⟨t,rfl⟩:=rx; exact SeqAt.EqAt.str_str a t' b t
  | _=>exact absurd (show false = true from fx) Bool.false_ne_true
 | _=>exact absurd (show false = true from fy) Bool.false_ne_true
def eqU (x:V) (u:Value) : Bool:=match u with
 | .none=>eqV .non x
 | .bool b=>eqV (.bl b) x
 | .int i _=>eqV (.int i) x
 | .str z _=>eqV (.str z) x
 | _=>false
theorem zlz {x y:V} {u:Value} (r:RelV y u) (f:zfV y = true) : eqU x u = eqV y x:=by
 cases y with
 | non=>cases r; rfl
 | bl b=>cases r; rfl
 | int i=>obtain ⟨t,rfl⟩:=r; rfl
 | str z=>obtain ⟨t,rfl⟩:=r; rfl
 | _=>exact absurd (show false = true from f) Bool.false_ne_true
theorem zgM {x:V} : ∀ {xs:List V} {us:List Value},Vals xs us → xs.all zfV = true → us.any (eqU x) = xs.any fun y=>eqV y x
 | _,_,.nil,_=>rfl
 | y :: xs,u :: us,.cons r t,f=>by
  rw [List.all_cons,Bool.and_eq_true] at f
  rw [List.any_cons,List.any_cons,zlz r f.1,zgM t f.2]
theorem zfI {A:Around} {s:Shared} {x:V} {v:Value} (rx:RelV x v) (fx:zfV x = true) : ∀ {xs:List V} {us:List Value},Vals xs us → xs.all zfV = true → ∀ u ∈ us,SeqAt.EqAt A s u v (eqU x u)
 | _,_,.nil,_=>fun u hu=>by cases hu
 | y :: xs,u :: us,.cons r t,f=>fun u' hu=>by
  rw [List.all_cons,Bool.and_eq_true] at f
  rcases List.mem_cons.mp hu with rfl | hu
  ·rw [zlz r f.1]; exact znU r rx f.1 fx
  ·exact zfI rx fx t f.2 u' hu
def inV (x:V) (xs:List V) : Bool:=xs.any fun y=>eqV y x
def rIn (K:PySem.W.Frag) (neg:Bool) : R2:=fun x y H Q=>∃ p xs,y = .ref p ∧ (SqL K H p xs ∨ SqT K H p xs) ∧ zfV x = true ∧ xs.all zfV = true ∧ Q (.bl (if neg then !inV x xs else inV x xs)) H
theorem zgk:OpR X (compareOp .NotIn) (rIn X.K true):=by
 intro pins s σ H x y v u Q I rx ry h
 obtain ⟨p,xs,rfl,hq,fx,fs,q⟩:=h
 cases ry
 rcases hq with hq | hq
 ·obtain ⟨its,r,pl,hz⟩:=I.list hq
  refine SeqAt.notIn_listAt (eqU x) pl.isList (fun w hw=>zfI rx fx r fs w (by simpa using hw)) ⟨.bl _,H,I,rfl,?_⟩
  rw [show its.toArray.any (eqU x) = its.any (eqU x) by simp,zgM r fs]
  exact q
 ·obtain ⟨its,r,pl,hz⟩:=I.tuple hq
  refine SeqAt.notIn_tupleAt (eqU x) pl (fun w hw=>zfI rx fx r fs w (by simpa using hw)) ⟨.bl _,H,I,rfl,?_⟩
  rw [show its.toArray.any (eqU x) = its.any (eqU x) by simp,zgM r fs]
  exact q
theorem zf5:zcZ X (.builtin "len") (fun xs H Q=>∃ p ys,xs = [.ref p] ∧ (SqL X.K H p ys ∨ SqT X.K H p ys) ∧ Q (.int ys.length) H):=by
 intro pins s σ H xs us Q I r h
 obtain ⟨p,ys,rfl,hq,q⟩:=h
 obtain ⟨u,rfl,rx⟩:=vals1 r
 cases rx
 have hn:=zek
 rcases hq with hq | hq
 ·obtain ⟨its,r',pl,hz⟩:=I.list hq
  have hlen:=r'.length
  exact Calls.call_len_list pl.isList (by simp only [List.size_toArray] <;> omega) ⟨.int ys.length,H,I.tok _,⟨s.toks + 1,by rw [List.size_toArray,hlen]⟩,q⟩
 ·obtain ⟨its,r',pl,hz⟩:=I.tuple hq
  have hlen:=r'.length
  exact len_tuple pl (by simp only [List.size_toArray] <;> omega) ⟨.int ys.length,H,I.tok _,⟨s.toks + 1,by rw [List.size_toArray,hlen]⟩,q⟩
theorem zgI:zcZ X (.builtin "len") (fun xs H Q=>∃ z,xs = [.str z] ∧ z.length ≤ sizeLine ∧ Q (.int z.length) H):=by
 intro pins s σ H xs us Q I r h
 obtain ⟨z,rfl,hz,q⟩:=h
 obtain ⟨u,rfl,t,rfl⟩:=vals1 r
 have hn:=zek
 exact len_str (by omega) ⟨.int z.length,H,I.tok _,⟨_,rfl⟩,q⟩
theorem zgm:zcZ X (.type "list") (fun xs H Q=>∃ p ys,xs = [.ref p] ∧ (SqL X.K H p ys ∨ SqT X.K H p ys) ∧ ∀ l,H l = none → Q (.ref l) (upd H l (.lst ys))):=by
 intro pins s σ H xs us Q I r h
 obtain ⟨p,ys,rfl,hq,q⟩:=h
 obtain ⟨u,rfl,rx⟩:=vals1 r
 cases rx
 have fin:∀ (its:List Value),Vals ys its → ys.length ≤ sizeLine → ∀ (h':Heap) (c':Nat),(∀ b o',s.heap.get? b = some o' → h'.get? b = some o') →
   h'.get? s.heap.objs.size = some { cls:=.type "list", dict:=none,data:=.seq its.toArray c',slots:=#[] } → EP X pins σ Q (.ref s.heap.objs.size) { s with heap:=h' }:=fun its r' hz h' c' kp e =>
  ⟨.ref s.heap.objs.size,_,I.laid (t':=s.toks) kp (Nat.le_refl _) (show ObjOk X.prog X.w _ h' _ (.lst ys) from ⟨hz,its,c',r',e⟩),rfl,q _ (I.hok.fresh (Nat.le_refl _))⟩
 rcases hq with hq | hq
 ·obtain ⟨its,r',pl,hz⟩:=I.list hq
  have hlen:=r'.length
  obtain ⟨o,ho,hc,n,hd⟩:=pl.isList
  exact call_list_seq p (.inl rfl) ho hc hd (fun h' c' kp e=>fin its r' hz h' c' kp e) (by simp only [List.size_toArray] <;> omega)
 ·obtain ⟨its,r',pl,hz⟩:=I.tuple hq
  have hlen:=r'.length
  obtain ⟨o,ho,hc,n,hd⟩:=pl
  exact call_list_seq p (.inr rfl) ho hc hd (fun h' c' kp e=>fin its r' hz h' c' kp e) (by simp only [List.size_toArray] <;> omega)
theorem zfG:zcZ X (.type "tuple") (fun xs H Q=>∃ p ys,xs = [.ref p] ∧ ((SqL X.K H p ys ∧ ∀ l,H l = none → Q (.ref l) (upd H l (.tup ys))) ∨ (SqT X.K H p ys ∧ Q (.ref p) H))):=by
 intro pins s σ H xs us Q I r h
 obtain ⟨p,ys,rfl,h⟩:=h
 obtain ⟨u,rfl,rx⟩:=vals1 r
 cases rx
 rcases h with ⟨hq,q⟩ | ⟨hq,q⟩
 ·obtain ⟨its,r',pl,hz⟩:=I.list hq
  have hlen:=r'.length
  refine call_tuple_list pl.isList (fun h' kp=>?_) (by simp only [List.size_toArray] <;> omega)
  have I1:Inv X pins σ H { s with heap:=h' }:=I.kept (t':=s.toks) kp
  have I2:Inv X pins σ (upd H h'.objs.size (.tup ys)) { s with heap:=h'.push { cls:=.type "tuple", data:=.seq its.toArray } } :=
   I1.laid (t':=s.toks) (fun b o e=>Heap.get?_push_of_some _ e) (Nat.le_refl _) (show ObjOk X.prog X.w _ _ _ (.tup ys) from ⟨hz,its,r',IsTup.new _ _⟩)
  exact ⟨.ref h'.objs.size,_,I2,rfl,q _ (I1.hok.fresh (Nat.le_refl _))⟩
 ·obtain ⟨its,r',pl,hz⟩:=I.tuple hq
  exact call_tuple_same pl ⟨.ref p,H,I,rfl,q⟩
def tyV (K:PySem.W.Frag) (T:String) (x:V) (H:Hp) : Prop:=match x with
 | .str _=>T = "str"
 | .int _=>T = "int"
 | .ref p => (T = "list" ∧ ∃ xs, SqL K H p xs) ∨ (T = "tuple" ∧ ∃ o, K.lookup p = some o ∧ o.cls = .type "tuple" ∧ o.dict = none) ∨
   (T = "dict" ∧ ((∃ kvs,H p = some (.dK kvs)) ∨ ∃ kvs,H p = some (.dT kvs))) ∨ (T = "set" ∧ ∃ S n,H p = some (.set S n))
 | _=>False
theorem zn7 {pins:List (Addr × Obj)} {σ:St} {H:Hp} {s:Shared} {T:String} {x:V} {v:Value} (I:Inv X pins σ H s) (r:RelV x v) (ty:tyV X.K T x H) :
  s.TypeIs v T ∧ ∀ a,v = .ref a → ∃ ob,s.heap.get? a = some ob ∧ ob.dict = none:=by
 cases x with
 | str z =>
  obtain ⟨t,rfl⟩:=r
  cases (show T = "str" from ty)
  exact ⟨typeIs_str s z t,fun _ e=>nomatch e⟩
 | int i =>
  obtain ⟨t,rfl⟩:=r
  cases (show T = "int" from ty)
  exact ⟨typeIs_int s i t,fun _ e=>nomatch e⟩
 | ref p =>
  cases r
  rcases ty with ⟨rfl,xs,hq⟩ | ⟨rfl,o,hk,hc,hd⟩ | ⟨rfl,hk⟩ | ⟨rfl,S,n,hk⟩
  ·obtain ⟨its,_,pl,_⟩:=I.list hq
   refine ⟨pl.isList.typeIs,fun a e=>?_⟩
   cases e
   obtain ⟨o,n,e,c,hd,_⟩:=pl
   exact ⟨o,e,hd⟩
  ·refine ⟨⟨o,I.kIn p o hk,hc⟩,fun a e=>?_⟩
   cases e
   exact ⟨o,I.kIn _ o hk,hd⟩
  ·have z:∃ o,s.heap.get? p = some o ∧ o.ExactDict:=by
    rcases hk with ⟨kvs,hk⟩ | ⟨kvs,hk⟩
    ·obtain ⟨_,_,_,_,o,_,_,e,ex,_⟩:=I.hok p _ hk
     exact ⟨o,e,ex⟩
    ·obtain ⟨_,_,_,_,o,_,_,e,ex,_⟩:=I.hok p _ hk
     exact ⟨o,e,ex⟩
   obtain ⟨o,e,ex⟩:=z
   refine ⟨⟨o,e,ex.1⟩,fun a e2=>?_⟩
   cases e2
   exact ⟨o,e,ex.2.1⟩
  ·obtain ⟨o,_,_,_,e,ex,_⟩:=I.hok p _ hk
   refine ⟨⟨o,e,ex.1⟩,fun a e2=>?_⟩
   cases e2
   exact ⟨o,e,ex.2.1⟩
 | _=>exact False.elim ty
def tBM (K:PySem.W.Frag) (T:String) (r:V → List V → Hp → VK → Prop) (to:TE) (t:TA) : TE:=fun σ H Q=>to σ H fun x H1=>tyV K T x H1 ∧ t σ H1 fun xs H2=>r x xs H2 Q
variable {o e:Expr} {es:List Expr} {to:TE} {t:TA} {name:Str} {apos cpos:Pos} {T id:String} {r:V → List V → Hp → VK → Prop}
theorem zkq (pa:PlainAttrs T) (slot:Slot T name id) (hty:typeOf (.builtin id) = pure (.type "method_descriptor")) (hm:MtR X id r) (ho:PE X o to) (ha:PA X (e :: es) t)
  (hbase:attributeBase o name X.env (eval o X.env) = eval o X.env:=by rfl)
  (hfew:((backTo cpos (starEach (e :: es) X.env)).all (fun x=>!x.1) && (backToKw cpos (keywordEach [] X.env)).all (fun x=>x.1.isSome)
   && decide ((e :: es).length + ([] : List Keyword).length + (if ([] : List Keyword).isEmpty then 0 else 1) < 30)) = true:=by rfl)
  (hline:(apos.endLine == cpos.line) = true:=by rfl) (hs:starEach (e :: es) X.env = (false,eval e X.env) :: starEach es X.env:=by rfl) (hplain:(backTo cpos (starEach es X.env)).any (·.1) = false:=by rfl) :
  PE X (.Call (.Attribute o name apos) (e :: es) [] cpos) (tBM X.K T r to t):=by
 intro pins s σ H Q I h
 refine wpAny_Call_method_late hbase hfew hline rfl (thn (ho pins s σ H _ I h) fun v s1 ⟨x,H1,I1,r1,ty,q1⟩=>?_)
 obtain ⟨h1,h2⟩:=zn7 I1 r1 ty
 refine ⟨T,id,pa,slot,hty,h1,h2,?_⟩
 have hA:=ha cpos pins s1 σ H1 _ I1 q1
 rw [hs] at hA ⊢
 refine Calls.callWith_builtin (by show (false || (backTo cpos (starEach es X.env)).any (·.1)) = false; rw [hplain] <;> rfl) (Calls.evalArgs_plain ?_)
 exact thn hA fun us s2 ⟨vs,H2,I2,r2,q2⟩=>hm pins s2 σ H2 x vs v us Q I2 r1 r2 q2
end
end L2
namespace L2
open PySem PySem.Spec PyProof.Rows
def MtM (X:Cx) (id:String) (r:V → List V → Hp → VK → Prop) : Prop :=
 ∀ (pins:List (Addr × Obj)) (s:Shared) (σ:St) (H:Hp) (x:V) (xs:List V) (v:Value) (us:List Value) (Q:VK),Inv X pins σ H s → RelV x v → Vals xs us → r x xs H Q →
  wpAny (model X.prog X.w) X.A (call (.builtin id) (v :: us)) (EP X pins σ Q) X.xe s
theorem Vals.one:∀ {x:V} {us:List Value},Vals [x] us → ∃ u,us = [u] ∧ RelV x u
 | _,_,.cons r .nil=>⟨_,rfl,r⟩
theorem Vals.two:∀ {x y:V} {us:List Value},Vals [x,y] us → ∃ u v,us = [u,v] ∧ RelV x u ∧ RelV y v
 | _,_,_,.cons r (.cons q .nil)=>⟨_,_,rfl,r,q⟩
theorem Vals.zero:∀ {us:List Value},Vals [] us → us = []
 | _,.nil=>rfl
theorem Vals.dropLast {xs:List V} {us:List Value} (h:Vals xs us) : Vals xs.dropLast us.dropLast:=by
 induction h with
 | nil=>exact .nil
 | cons r t ih =>
  cases t with
  | nil=>exact .nil
  | cons q t'=>exact .cons r ih
theorem Vals.reverse {xs:List V} {us:List Value} (h:Vals xs us) : Vals xs.reverse us.reverse:=by
 induction h with
 | nil=>exact .nil
 | cons r t ih=>rw [List.reverse_cons,List.reverse_cons]; exact Vals.append ih (.cons r .nil)
section
variable {X:Cx} {pins:List (Addr × Obj)} {σ:St} {H:Hp} {s:Shared} {l b:Addr} {xs ys zs:List V}
theorem Inv.lset {its its':List Value} {n:Nat} {f:Array Value → Array Value} {t':Nat} (I:Inv X pins σ H s) (hH:H l = some (.lst xs))
  (e:s.heap.get? l = some { cls:=.type "list", data:=.seq its.toArray n }) (hf:f its.toArray = its'.toArray) (hv:Vals ys its') (hz:ys.length ≤ sizeLine) :
  Inv X pins σ (upd H l (.lst ys)) { s with heap:=s.heap.update l (Obj.mapSeq f),toks:=t' }:=by
 have q:=PySem.IsL.update e f
 rw [hf] at q
 refine I.write (x:=l) (e:=l) (by rw [hH]; exact trivial) (.inl rfl) (fun b' u hb hu=>(Heap.get?_update_other s.heap (Obj.mapSeq f) (Ne.symm hb)).trans hu) ⟨_,q⟩ ?_
 exact ⟨hz,its',_,hv,q⟩
theorem Inv.lnew {its:List Value} {t':Nat} (I:Inv X pins σ H s) (hv:Vals ys its) (hz:ys.length ≤ sizeLine) :
  Inv X pins σ (upd H s.heap.objs.size (.lst ys)) { s with heap:=s.heap.push { cls:=.type "list", data:=.seq its.toArray },toks:=t' } :=
 I.laid (fun _ _ q=>Heap.get?_push_of_some _ q) (Nat.le_refl _) ⟨hz,its,0,hv,Heap.get?_push_size _ rfl⟩
theorem Inv.fresh (I:Inv X pins σ H s) : H s.heap.objs.size = none:=I.hok.fresh (Nat.le_refl _)
theorem Inv.lstM (I:Inv X pins σ H s) (hH:H l = some (.lst xs)) : xs.length ≤ sizeLine ∧ ∃ (its:List Value) (n:Nat),Vals xs its ∧ xs.length = its.length ∧ s.heap.get? l = some { cls:=.type "list", data:=.seq its.toArray n }:=by
 obtain ⟨z,its,n,r,e⟩:=I.hok l _ hH
 exact ⟨z,its,n,r,r.length,e⟩
theorem zke {n:Nat} (h:n ≤ sizeLine) : Builtin.List.listTooLong n = false:=by
 unfold Builtin.List.listTooLong
 exact decide_eq_false (by omega)
end
section
variable {X:Cx}
def zbG:V → List V → Hp → VK → Prop:=fun x vs H Q=>∃ l xs y,x = .ref l ∧ vs = [y] ∧ H l = some (.lst xs) ∧ xs.length < sizeLine ∧ Q .non (upd H l (.lst (xs ++ [y])))
theorem zeu:MtM X "list.append" zbG:=by
 intro pins s σ H x vs v us Q I rx rv h
 obtain ⟨l,xs,y,rfl,rfl,hH,hz,q⟩:=h
 cases rx
 obtain ⟨u,rfl,ru⟩:=rv.one
 obtain ⟨z,its,n,r,hl,e⟩:=I.lstM hH
 refine call_meets F.slot_list_append ⟨_,e,rfl⟩ F.entry_list_append (F.args_list_append_2 _ _) (PySem.list_append l its.toArray n u (by rw [List.size_toArray]; omega)) ⟨e,?_⟩
 refine ⟨.non,_,I.lset (its':=its ++ [u]) hH e (by simp) (r.append (.cons ru .nil)) ?_,rfl,q⟩
 rw [List.length_append,List.length_singleton]
 omega
def zjG:V → List V → Hp → VK → Prop:=fun x vs H Q=>∃ l b xs zs,x = .ref l ∧ vs = [.ref b] ∧ H l = some (.lst xs) ∧ H b = some (.lst zs) ∧ xs.length + zs.length ≤ sizeLine ∧ Q .non (upd H l (.lst (xs ++ zs)))
theorem zjJ:MtM X "list.extend" zjG:=by
 intro pins s σ H x vs v us Q I rx rv h
 obtain ⟨l,b,xs,zs,rfl,rfl,hH,hB,hz,q⟩:=h
 cases rx
 obtain ⟨u,rfl,ru⟩:=rv.one
 cases ru
 obtain ⟨z,its,n,r,hl,e⟩:=I.lstM hH
 obtain ⟨z2,its2,n2,r2,hl2,e2⟩:=I.lstM hB
 have hsz:its.toArray.size + its2.toArray.size ≤ sizeLine:=by rw [List.size_toArray,List.size_toArray]; omega
 have hlong : ¬ (!its.toArray.isEmpty && Builtin.List.listTooLong (its.toArray.size + its2.toArray.size)) = true:=by
  rw [zke hsz,Bool.and_false]
  exact Bool.false_ne_true
 refine call_meets F.slot_list_extend ⟨_,e,rfl⟩ F.entry_list_extend (F.args_list_extend_2 _ _)
  (AutoSeq1.list_extend_list_list_0 l its.toArray n b its2.toArray n2 hlong (by rw [List.size_toArray]; omega) (by omega)) ⟨e,e2,?_⟩
 refine ⟨.non,_,I.lset (its':=its ++ its2) hH e (by simp) (r.append r2) ?_,rfl,q⟩
 rw [List.length_append]
 omega
def rCat:R2:=fun x y H Q=>∃ l b xs zs,x = .ref l ∧ y = .ref b ∧ H l = some (.lst xs) ∧ H b = some (.lst zs) ∧ xs.length + zs.length ≤ sizeLine ∧ ∀ p,H p = none → Q (.ref p) (upd H p (.lst (xs ++ zs)))
theorem zm5:OpR X (binaryOp .Add) rCat:=by
 intro pins s σ H x y v u Q I rx ry h
 obtain ⟨l,b,xs,zs,rfl,rfl,hH,hB,hz,q⟩:=h
 cases rx
 cases ry
 obtain ⟨z,its,n,r,hl,e⟩:=I.lstM hH
 obtain ⟨z2,its2,n2,r2,hl2,e2⟩:=I.lstM hB
 refine PySem.P.add_list e e2 ?_ (by rw [List.size_toArray,List.size_toArray]; omega)
 have ea:its.toArray ++ its2.toArray = (its ++ its2).toArray:=by simp
 rw [ea]
 exact ⟨.ref _,_,I.lnew (t':=s.toks) (r.append r2) (by rw [List.length_append]; omega),rfl,q _ I.fresh⟩
end
section
variable {prog:Program} {w:World} {A:Around} {E:Value → Shared → Prop} {s:Shared}
end
section
variable {X:Cx}
end
end L2
namespace Att
open PySem PySem.W PySem.Calls PyProof.Rows
theorem zeg {P:Params} {h:Heap} : ∀ (ns:List Int) (vs:List Value),WellAll P h vs (ns.map WData.int) → IntsAre vs ns:=by
 intro ns
 induction ns with
 | nil =>
  intro vs w
  rw [List.map_nil] at w
  cases w
  exact .nil
 | cons n ns ih =>
  intro vs w
  rw [List.map_cons] at w
  cases w with
  | cons a b =>
   cases a
   exact .cons _ _ (ih _ b)
theorem ziz {l:OpenLaw} {n:Nat} (hn:l.most = some n) {P:Params} {h:Heap} {args:List WData} {vals:List Value}
  (hpre:l.row.toRowW.claim.pre args = true) (hwl:WellAll P h vals args) :
  ∃ a vs ns,vals = [Value.ref a] ∧ args = [WData.list (ns.map WData.int)] ∧ h.get? a = some { cls:=.type "list", data:=.seq vs.toArray } ∧ IntsAre vs ns ∧ ns.length ≤ n:=by
 have hsh:WShape.hasAll [] args [.list .int] = true:=(pre_splitW hpre).1
 have hc:l.pre.holds [] { args:=args } = true:=(pre_splitW hpre).2
 obtain ⟨d,r,rfl,h1,h2⟩:=hasAllW_cons hsh
 obtain rfl:=hasAllW_nil h2
 obtain ⟨xs,rfl,h3⟩:=hasW_list h1
 obtain ⟨ns,rfl⟩:=items_int h3
 have hlen:ns.length ≤ n:=by
  unfold OpenLaw.pre at hc
  have h4:(WTm.not (.lt (.lit (.int (n:Int))) (.len (.arg 0)))).holds [] { args:=[.list (ns.map .int)] } = true:=by
   have h4:=(holds_andW hc).1
   rw [hn] at h4
   exact h4
  have h5:=condW_of h4 (w_not (w_lt w_lit (w_len_list (w_arg rfl))))
  rw [List.length_map] at h5
  refine Nat.le_of_not_lt fun q=>?_
  have q':(n:Int) < ((ns.length:Nat) : Int):=by omega
  first
   | (rw [decide_eq_true q'] at h5; exact absurd h5 (by decide))
   | (simp at h5; omega)
 cases hwl with
 | cons w1 w2 =>
  cases w2
  cases w1 with
  | list ho hall=>exact ⟨_,_,ns,rfl,rfl,ho,zeg ns _ hall,hlen⟩
theorem ziE (l:OpenLaw) (args:List WData) : l.row.toRowW.claim.post args (.bool true) args = true :=
 postW_of (r:=l.row.toRowW) (X:=(true == true))
  (show WShape.has [] (.bool true) .bool = true by first | rfl | decide | simp [WShape.has,WShape.arms,WShape.armsAll])
  (show (WTm.eq .res (.lit (.bool true))).value [] { args:=args,res:=some (.bool true),after:=args } = some (.bool (true == true)) from w_eq_bool (w_res rfl) w_lit) rfl
theorem attach_call {l:OpenLaw} {n:Nat} {q:Program} {loose:List Str} {XP:(Str → Option Value) → Heap → Prop} {YP:World → Heap → Prop} {d:DefRec}
  (hn:l.most = some n) (hdf:d.params.defaults = [])
  (call:∀ (w:World) (s₀ s₁:Shared) (mg mb:Str → Option Value) (fa:Addr) (o:Obj) (pm cd doc:Value) (a:Addr) (vs:List Value) (ns:List Int),
   Ground q loose [] XP w s₀ mg mb s₁.heap → YP w s₁.heap →
   s₁.heap.get? fa = some o → o.data = .func (docDef d.name d.params d.body d.scope pm cd doc) → s₁.heap.CodeRec cd d.name → mg d.name = some (.ref fa) →
   s₁.heap.get? a = some { cls:=.type "list", data:=.seq vs.toArray } → IntsAre vs ns → ns.length ≤ n → s₁.gens = #[] →
   codeAny (model l.prog w) callerA (.call (.ref fa) ⟨[.ref a],[]⟩) (fun r s'=>r = .ok (.ret (.bool true)) ∧ OldK s₁.heap s'.heap ∧ s'.os = s₁.os ∧ AllBare s'.gens) s₁) :
  WalkO q loose XP YP l.row.toRowW d [] (fun f vs=>PySem.call f vs):=by
 intro w s₀ s₁ mg mb G Y fa o pm cd doc dV kV ho hd hcd hD hmg hg args vals as hpre hlay hrd hwl hlo
 obtain rfl:dV = .none:=Dflts.none hD hdf
 obtain rfl:kV = .none:=Dflts.noKw hD
 obtain ⟨a,vs,ns,rfl,rfl,hobj,hints,hlen⟩:=ziz hn hpre hwl
 refine enter_call (codeAny_mono (call w s₀ s₁ mg mb fa o pm cd doc a vs ns G Y ho (fd_plain hd) hcd hmg hobj hints hlen hg) fun r s' hq=>?_)
 obtain ⟨rfl,h2,h3,h4⟩:=hq
 exact ⟨.inl ⟨.bool true,.bool true,[],rfl,fun _=>rfl,.bool true,ziE l _,fun _=>⟨List.Pairwise.nil,fun _ hm=>(nomatch hm)⟩⟩,h2,h3,h4⟩
section
variable {prog:Program} {w:World} {A:Around} {E:Value → Shared → Prop} {s:Shared} {K:Frag}
end
end Att
namespace L2
open PySem PySem.Spec PyProof.Rows
theorem zeq:∀ {vs:List Value} {ns:List Int},IntsAre vs ns → Vals (ns.map V.int) vs
 | _,_,.nil=>.nil
 | _,_,.cons n t h=>.cons ⟨t,rfl⟩ (zeq h)
def Only (H:Hp) : Prop:=∀ b,H b = none ∨ ∃ o xs,H b = some (.frz o (.lst xs))
theorem zlb {P:Program} {w:World} {K:PySem.W.Frag} {mg mb:Str → Option Value} {CX:CXT} {k:Nat} {fa a:Addr} {fd:FuncData} {x:Str} {sp:Sp} {s₁:Shared} {vs:List Value} {ns:List Int}
  (KX:K.In s₁.heap) (hns:s₁.heap.Ns mainGlobals mg) (hb:s₁.heap.Ns builtinsNs mb) (hbb:∀ x:Str,x ≠ "__name__" → mb x = bootBuiltins x) (hlim:s₁.heap.NoLimit) (hg:s₁.gens = #[])
  (ha:s₁.heap.get? a = some { cls:=.type "list", data:=.seq vs.toArray }) (hi:IntsAre vs ns) (hl:ns.length ≤ sizeLine) (hr:Room k callerA)
  (F:∀ base:Heap,K.In base → base.Ns mainGlobals mg → FnOk P w K mg base CX k fa fd [x] sp) (hbind:∀ (s:Shared) (u:Value),BindsTo s fd ⟨[u],[]⟩ [(x,u)])
  (hsp:∀ H:Hp,Only H → SqL K H a (ns.map V.int) → sp [.ref a] H (fun v _=>v = .bl true) fun _ _ _=>False)
  (hCX:∀ H e s',CX [] H s₁ (fun _ _ _=>False) e s' → False) :
  codeAny (model P w) callerA (.call (.ref fa) ⟨[.ref a],[]⟩) (fun r s'=>r = .ok (.ret (.bool true)) ∧ OldK s₁.heap s'.heap ∧ s'.os = s₁.os ∧ AllBare s'.gens) s₁:=by
 have rv:=zeq hi
 have lenV:=hi.length
 have core : ∀ H : Hp, Only H → SqL K H a (ns.map V.int) → HOk P w H s₁.heap → (∀ b, H b ≠ none → b = a) → (H a ≠ none → K.lookup a = none) →
   codeAny (model P w) callerA (.call (.ref fa) ⟨[.ref a],[]⟩) (fun r s'=>r = .ok (.ret (.bool true)) ∧ OldK s₁.heap s'.heap ∧ s'.os = s₁.os ∧ AllBare s'.gens) s₁:=by
  intro H hO hS hok hA hK
  have base_of:∀ {b:Addr} {o:Obj},s₁.heap.get? b = some o → H b = none → (hidT s₁.heap H).get? b = some o:=fun e n=>zkR e n
  have noA:∀ {b:Addr} {o:Obj} {es:Array DictEntry} {ep:Nat},s₁.heap.get? b = some o → o.data = .dict es ep → H b = none:=fun {b o es ep} e d=>by
   cases q:H b with
   | none=>rfl
   | some u =>
    have e':b = a:=hA b (by rw [q]; simp)
    subst e'
    rw [ha] at e; cases e
    have d':Data.seq vs.toArray _ = Data.dict es ep:=d
    cases d'
  have nsK:∀ {b:Addr} {m:Str → Option Value},s₁.heap.Ns b m → (hidT s₁.heap H).Ns b m:=fun {b m} ⟨o,es,ep,e,d,r⟩=>⟨o,es,ep,base_of e (noA e d),d,r⟩
  have hKb:K.In (hidT s₁.heap H):=fun b o e=>base_of (KX b o e) (by
   cases q:H b with
   | none=>rfl
   | some u =>
    have e':b = a:=hA b (by rw [q]; simp)
    subst e'
    rw [hK (by rw [q]; simp)] at e; cases e)
  have hM:Mod K mg (hidT s₁.heap H):=⟨hKb,nsK hns,⟨mb,nsK hb,hbb⟩,let ⟨mc,h1,h2⟩:=hlim; ⟨mc,nsK h1,h2⟩⟩
  have e0:Env0 P w K mg (hidT s₁.heap H) callerA [] s₁ H:=⟨rfl,hM,fun b o e=>zmQ e,Nat.le_of_eq (zjF _ _),trivial,fun b hb=>absurd (show b ∈ ([] : List Addr) from hb) (by simp),hok,.of_eq hg⟩
  refine codeAny_mono ((F _ hKb (nsK hns)).run callerA [] s₁ H ⟨[.ref a],[]⟩ [.ref a] [.ref a] _ _ hr e0 (hbind s₁ (.ref a)) (.cons rfl .nil) (hsp H hO hS)) fun r s' h=>?_
  cases r with
  | error e=>exact (hCX H e s' h).elim
  | ok fl =>
   cases fl with
   | next=>exact False.elim h
   | brk=>exact False.elim h
   | cont=>exact False.elim h
   | ret u =>
    obtain ⟨v,H',os,bare,un,hok',r',q⟩:=h
    have q':v = .bl true:=q
    subst q'
    obtain rfl:u = Value.bool true:=r'
    refine ⟨rfl,OldK.of_keep fun b o e=>?_,os,bare⟩
    cases q:H b with
    | none=>exact un.keep b o e q (by intro z; exact absurd (show b ∈ ([] : List Addr) from z) (by simp)) (by simp)
    | some u =>
     rcases hO b with z | ⟨ob,xs,z⟩
     ·rw [q] at z; cases z
     ·have z2:=un.frzs b ob _ z
      obtain ⟨e1,_⟩:=hok b _ z
      obtain ⟨e2,_⟩:=hok' b _ z2
      rw [e] at e1; cases e1
      exact e2
 cases hk:K.lookup a with
 | some o =>
  have e:=KX a o hk
  rw [ha] at e
  cases e
  refine core (fun _=>none) (fun _=>.inl rfl) (.inr ⟨_,vs.toArray,_,hk,rfl,rfl,rfl,by rw [List.size_toArray,lenV]; exact hl,by simpa using rv⟩) (fun b u z=>by have z':(none:Option HO) = some u:=z; cases z') (fun b z=>absurd rfl z) fun z=>absurd rfl z
 | none =>
  refine core (fun b=>if b = a then some (.frz { cls:=.type "list", data:=.seq vs.toArray } (.lst (ns.map V.int))) else none) (fun b=>?_) (.inl (.inr ⟨{ cls:=.type "list", data:=.seq vs.toArray },if_pos rfl⟩)) (fun b u z=>?_) (fun b z=>?_) fun _=>hk
  ·by_cases hb:b = a
   ·exact .inr ⟨_,_,if_pos hb⟩
   ·exact .inl (if_neg hb)
  ·by_cases hb:b = a
   ·have z':=(if_pos hb).symm.trans z
    cases z'
    subst hb
    exact ⟨ha,by rw [List.length_map]; exact hl,vs,_,rv,ha⟩
   ·have z':=(if_neg hb).symm.trans z
    cases z'
  ·by_cases hb:b = a
   ·exact hb
   ·exact absurd (if_neg hb) z
end L2
namespace L2
open PySem PySem.Spec PyProof.Rows
theorem walk_of {l:PySem.W.OpenLaw} {n k:Nat} {q:Program} {loose:List Str} {XP:(Str → Option Value) → Heap → Prop} {YP:World → Heap → Prop} {d:DefRec} {K:Params → PySem.W.Frag} {CX:World → CXT} {sp:World → Sp} {x:Str}
  (hn:l.most = some n) (hn2:n ≤ sizeLine) (hdf:d.params.defaults = []) (hr:Room k callerA)
  (hY:∀ (w:World) (h:Heap),YP w h → (K w.params).In h)
  (F:∀ (w:World) (mg:Str → Option Value) (fa:Addr) (h:Heap),(K w.params).In h → h.Ns mainGlobals mg → mg d.name = some (.ref fa) →
   ∃ fd:FuncData,(∀ (s:Shared) (u:Value),BindsTo s fd ⟨[u],[]⟩ [(x,u)]) ∧
    ∀ base:Heap,(K w.params).In base → base.Ns mainGlobals mg → FnOk l.prog w (K w.params) mg base (CX w) k fa fd [x] (sp w))
  (hsp:∀ (w:World) (H:Hp) (a:Addr) (ns:List Int),ns.length ≤ n → Only H → SqL (K w.params) H a (ns.map V.int) → sp w [.ref a] H (fun v _=>v = .bl true) fun _ _ _=>False)
  (hCX:∀ (w:World) (H:Hp) (s:Shared) (e:Value) (s':Shared),CX w [] H s (fun _ _ _=>False) e s' → False) :
  PySem.W.WalkO q loose XP YP l.row.toRowW d [] (fun f vs=>PySem.call f vs):=by
 refine Att.attach_call hn hdf fun w s₀ s₁ mg mb fa o pm cd doc a vs ns G Y ho hd hcd hmg hobj hints hlen hg=>?_
 have KX:=hY w _ Y
 obtain ⟨fd,hb,hF⟩:=F w mg fa _ KX G.T.g hmg
 exact zlb KX G.T.g G.T.b G.T.builtins G.T.nolimit hg hobj hints (Nat.le_trans hlen hn2) hr hF hb (fun H hO hS=>hsp w H a ns hlen hO hS) fun H e s'=>hCX w H s₁ e s'
end L2
namespace L2
open PySem PySem.Spec PyProof.Rows
def inClass (s:Stmt) (j:Nat) : Stmt:=match s with
 | .ClassDef _ _ _ body _ _ _ _ _ _ _=>body.getD j (.Pass ⟨0,0,0,0⟩)
 | _=>.Pass ⟨0,0,0,0⟩
def zbD (s:Stmt) : Arguments:=match s with
 | .FunctionDef _ a _ _ _ _ _ _ _ _=>a
 | _=>{ posonlyargs:=[],args:=[],vararg:=none,kwonlyargs:=[],kw_defaults:=[],kwarg:=none,defaults:=[] }
def zbe (s:Stmt) : List Stmt:=match s with
 | .FunctionDef _ _ b _ _ _ _ _ _ _=>b
 | _=>[]
def zad (s:Stmt) : Scope:=match s with
 | .FunctionDef _ _ _ _ _ _ sc _ _ _=>sc
 | _=>{ kind:=.function,names:=[],isGenerator:=false,isCoroutine:=false }
abbrev CX0:CXT:=fun _ _ _ _ _ _=>False
abbrev E0:XK:=fun _ _ _=>False
theorem ziY {X:Cx} : Passes CX0 X E0:=fun _ _ _ _ _ _ _ h=>h.elim
structure Fun (K:PySem.W.Frag) (x qual:Str) (st:Stmt) (f:Addr) (fd:FuncData) : Prop where
 ex:∃ (oc:Value) (od:Option Addr) (kV doc pm:Value) (an:Option Addr) (cdv ct:Value) (osl:Array (Option Value)),
  fd = PySem.W.fnOf x qual (zbD st) (zbe st) (zad st) .none kV doc pm an cdv ct ∧ K.lookup f = some ⟨oc,od,.func fd,osl⟩ ∧ PySem.W.codeIn K cdv qual = true
 kp:PySem.W.keepIn K (.ref f) = true
section
variable {P:Program} {w:World} {K:PySem.W.Frag} {mg:Str → Option Value} {base:Heap}
theorem Fun.ok {x qual:Str} {st:Stmt} {f:Addr} {fd:FuncData} {N ps:List Str} {k:Nat} {sp:Sp} (F:Fun K x qual st f fd) (S:FnScope N ps (zad st)) (len:∀ vs H Q E,sp vs H Q E → vs.length = ps.length)
  (hbody:∀ (cdv:Value) (A:Around) (outer:List Env) (s:Shared) (H:Hp) (vs:List V) (Q:VK) (E:XK),Room k (A.deeper (envOfC qual (zad st) s.heap.objs.size f cdv)) → sp vs H Q E →
   ∃ t,PSs (cxOf CX0 P w K mg base N qual (zad st) f cdv A outer s H E).nox (zbe st) t ∧ t { nx:=fun _ H'=>Q .non H',rt:=Q } (start N vs) H) : FnOk P w K mg base CX0 (k + 1) f fd ps sp:=by
 obtain ⟨oc,od,kV,doc,pm,an,cdv,ct,osl,rfl,lk,hcd⟩:=F.ex
 refine zos lk hcd S len fun A outer s H vs Q E hr hsp=>?_
 obtain ⟨t,h,q⟩:=hbody cdv A outer s H vs Q E hr hsp
 exact ⟨t,h.nox,q⟩
theorem Fun.binds {x qual:Str} {st:Stmt} {f:Addr} {fd:FuncData} {ps:List Str} (F:Fun K x qual st f fd)
  (h:∀ (kV doc pm:Value) (an:Option Addr) (cdv ct:Value) (us:List Value),us.length = ps.length → bindArgs (PySem.W.fnOf x qual (zbD st) (zbe st) (zad st) .none kV doc pm an cdv ct) ⟨us,[]⟩ = pure (ps.zip us)) : Binds K fd ps []:=by
 obtain ⟨oc,od,kV,doc,pm,an,cdv,ct,osl,rfl,lk,hcd⟩:=F.ex
 exact .all (h kV doc pm an cdv ct)
theorem zap {x qual:Str} {st:Stmt} {f:Addr} {oc:Value} {od an:Option Addr} {osl:Array (Option Value)} {kV doc pm cdv ct:Value} (l:K.lookup f = some ⟨oc,od,.func (PySem.W.fnOf x qual (zbD st) (zbe st) (zad st) .none kV doc pm an cdv ct),osl⟩)
  (c:PySem.W.codeIn K cdv qual = true) (k:PySem.W.keepIn K (.ref f) = true) : Fun K x qual st f (PySem.W.fnOf x qual (zbD st) (zbe st) (zad st) .none kV doc pm an cdv ct):=⟨⟨oc,od,kV,doc,pm,an,cdv,ct,osl,rfl,l,c⟩,k⟩
end
theorem zae {n:Nat} (h:n ≤ 1000) : n < sizeLine:=Nat.lt_of_le_of_lt h (by decide)
section
variable {X:Cx}
end
theorem iteF {A B:Prop} (h:B) : if false = true then A else B:=by
 rw [if_neg Bool.false_ne_true]
 exact h
theorem iteT {A B:Prop} (h:A) : if true = true then A else B:=by
 rw [if_pos rfl]
 exact h
theorem ite2 {c A B:Prop} [Decidable c] (h1:c → A) (h2 : ¬ c → B) : if c then A else B:=by
 by_cases h:c
 ·rw [if_pos h]
  exact h1 h
 ·rw [if_neg h]
  exact h2 h
theorem zmg {c A B:Prop} [Decidable c] (hc:c) (h:B) : if (!decide c) = true then A else B:=by
 rw [decide_eq_true hc]
 exact iteF h
def Same (H H':Hp) : Prop:=∀ b o,H b = some o → H' b = some o
theorem Same.refl (H:Hp) : Same H H:=fun _ _ h=>h
theorem Same.trans {H H1 H2:Hp} (a:Same H H1) (b:Same H1 H2) : Same H H2:=fun c o h=>b c o (a c o h)
theorem Same.free {H H':Hp} (e:Same H H') {l:Addr} (h:H' l = Option.none) : H l = Option.none:=by
 cases q:H l with
 | none=>rfl
 | some o =>
  rw [e l o q] at h
  cases h
theorem Same.seq {K:PySem.W.Frag} {H H':Hp} {a:Addr} {xs:List V} (e:Same H H') (h:SqL K H a xs) : SqL K H' a xs:=by
 rcases h with (h | ⟨o,h⟩) | h
 ·exact .inl (.inl (e _ _ h))
 ·exact .inl (.inr ⟨o,e _ _ h⟩)
 ·exact .inr h
end L2
namespace L2
open PySem
theorem exg {α:Sort _} {p q:α → Prop} (w:α) (h:p w) (k:q w) : ∃ v,p v ∧ q v:=⟨w,h,k⟩
theorem zjR {t u:TS} {D:Ends} {σ:St} {H:Hp} (h:let E:=D; let U:=u E; t { E with nx:=U } σ H) : tSeq t u D σ H:=h
theorem zaT {p:Prop} (h:let G:=p; G) : p:=h
theorem zgh {K:PySem.W.Frag} {a:Addr} {xs:List V} {g:TG} {tb:TS} {D:Ends} {σ:St} {H:Hp} (Pv:Nat → St → Hp → Prop) (h0:Pv 0 σ H) (hl:∀ i σ H,i ≤ xs.length → Pv i σ H → SqL K H a xs)
  (hs:let J:=Pv; let E:=D; ∀ i x σ H,xs[i]? = some x → J i σ H → g x σ H fun σ2 H2=>tb { E with nx:=J (i + 1),ct:=J (i + 1),bk:=E.nx } σ2 H2) (hd:∀ σ H,Pv xs.length σ H → D.nx σ H) :
  ∃ W:Nat → Nat → St → Hp → Prop,(∃ m,W 0 m σ H) ∧ ∀ i m σ H,W i m σ H →
   ((Itl K a).stop i H ∧ D.nx σ H) ∨ ((Itl K a).go i H ∧ ∃ N:St → Hp → Prop,(∀ σ' H',N σ' H' → ∃ m',m' < m ∧ W (i + 1) m' σ' H') ∧ ∀ x H',(Itl K a).yld i H x H' → g x σ H' fun σ2 H2=>tb { D with nx:=N,ct:=N,bk:=D.nx } σ2 H2):=zaA Pv h0 hl hs hd
end L2
set_option maxHeartbeats 4000000
namespace Wr
open PySem PySem.W PyProof.Rows
def Kp (key:Nat → Int) (p:Array Nat) (i:Nat) : Int:=key (p.getD i 0)
structure PBase (n:Nat) (p:Array Nat) : Prop where
 perm:p.toList.Perm (List.range n)
theorem PBase.size {n:Nat} {p:Array Nat} (B:PBase n p) : p.size = n:=by
 have h:=B.perm.length_eq
 rw [List.length_range,Array.length_toList] at h
 exact h
theorem PBase.lt {n:Nat} {p:Array Nat} (B:PBase n p) (hn:0 < n) (i:Nat) : p.getD i 0 < n:=by
 rw [Array.getD_eq_getD_getElem?]
 cases e:p[i]? with
 | none=>exact hn
 | some x =>
  have hm:x ∈ p.toList:=by
   rw [Array.getElem?_eq_some_iff] at e
   obtain ⟨h,rfl⟩:=e
   exact Array.getElem_mem_toList h
  exact List.mem_range.mp (B.perm.mem_iff.mp hm)
theorem PBase.rev {n:Nat} {p:Array Nat} (B:PBase n p) (i j:Nat) : PBase n (kas_rev p i j) :=
 ⟨(Array.perm_iff_toList_perm.mp (mirror_perm p i j _)).trans B.perm⟩
theorem PBase.bub {n:Nat} {p:Array Nat} (B:PBase n p) (i j:Nat) : PBase n (bubble p i j) :=
 ⟨(Array.perm_iff_toList_perm.mp (bubble_perm p i j)).trans B.perm⟩
def Up (key:Nat → Int) (p:Array Nat) (k:Nat) : Prop:=∀ i j,i ≤ j → j < k → Kp key p i ≤ Kp key p j
def Dn (key:Nat → Int) (p:Array Nat) (k:Nat) : Prop:=∀ i j,i ≤ j → j < k → Kp key p j ≤ Kp key p i
theorem zf6 {key:Nat → Int} {p:Array Nat} {i j:Nat} (hj:j ≤ p.size) (k:Nat) : Kp key (kas_rev p i j) k = if i ≤ k ∧ k < j then Kp key p (i + j - 1 - k) else Kp key p k:=by
 unfold Kp kas_rev
 rw [Array.getD_eq_getD_getElem?,getElem?_mirror_all hj]
 split <;> rw [Array.getD_eq_getD_getElem?]
theorem zlu {key:Nat → Int} {p:Array Nat} {k l:Nat} (hk:k < p.size) (hl:l ≤ k) (i:Nat) :
  Kp key (bubble p k (k - l)) i = if i = l then Kp key p k else if l < i ∧ i ≤ k then Kp key p (i - 1) else Kp key p i:=by
 have g:∀ (q:Array Nat) (x:Nat),Kp key q x = key (q[x]?.getD 0):=fun q x=>by unfold Kp; rw [Array.getD_eq_getD_getElem?]
 have e:k - (k - l) = l:=by omega
 rw [g,g,g,g,getElem?_bubble hk (k - l) (by omega),e]
 by_cases h1:i = l
 ·rw [if_pos h1,if_pos h1]
 ·rw [if_neg h1,if_neg h1]
  by_cases h2:l < i ∧ i ≤ k
  ·rw [if_pos h2,if_pos h2]
  ·rw [if_neg h2,if_neg h2]
section
variable {cmp:Nat → Nat → (Bool → Shared → Prop) → Shared → Prop} {key:Nat → Int} {n:Nat} {s:Shared}
def Says (cmp:Nat → Nat → (Bool → Shared → Prop) → Shared → Prop) (key:Nat → Int) (n:Nat) (s:Shared) : Prop :=
 ∀ i j C,i < n → j < n → C (decide (key i < key j)) s → cmp i j C s
theorem ask_ {α:Type} {i j:Nat} {k:Bool → KasT α} {G:α → Shared → Prop} (hc:Says cmp key n s) (hi:i < n) (hj:j < n)
  (h1:key i < key j → (k true).kasWp cmp G s) (h2:key j ≤ key i → (k false).kasWp cmp G s) : (KasT.ask i j k).kasWp cmp G s:=by
 refine hc i j _ hi hj ?_
 by_cases h:key i < key j
 ·rw [decide_eq_true h]; exact h1 h
 ·rw [decide_eq_false h]; exact h2 (Int.not_lt.mp h)
theorem zmK (hc:Says cmp key n s) (hn:0 < n) {p:Array Nat} (B:PBase n p) {G:Nat → Shared → Prop} : ∀ (f a:Nat),1 ≤ a → a + f ≤ n → Up key p a →
  (∀ m,a ≤ m → m ≤ a + f → Up key p m → (m = a + f ∨ Kp key p m < Kp key p (m - 1)) → G m s) → (kas_asc p f a).kasWp cmp G s
 | 0,a,_,_,hu,h=>h a (Nat.le_refl _) (Nat.le_refl _) hu (.inl rfl)
 | f + 1, a, h1, hf, hu, h => by
  show (KasT.ask (p.getD a 0) (p.getD (a - 1) 0) fun c=>if c = true then KasT.ret a else kas_asc p f (a + 1)).kasWp cmp G s
  refine ask_ hc (B.lt hn _) (B.lt hn _) (fun q=>?_) (fun q=>?_)
  ·rw [if_pos rfl]
   exact h a (Nat.le_refl _) (by omega) hu (.inr q)
  ·rw [if_neg (by decide)]
   refine zmK hc hn B f (a + 1) (by omega) (by omega) (fun i j hij hj=>?_) fun m m1 m2 m3 m4=>h m (by omega) (by omega) m3 (by rcases m4 with e | e; exact .inl (by omega); exact .inr e)
   by_cases hja:j < a
   ·exact hu i j hij hja
   ·obtain rfl:j = a:=by omega
    by_cases hi:i = j
    ·subst hi; exact Int.le_refl _
    ·exact Int.le_trans (hu i (j - 1) (by omega) (by omega)) q
theorem zja (hc:Says cmp key n s) (hn:0 < n) {G:Array Nat × Nat × Nat → Shared → Prop} : ∀ (f:Nat) (p:Array Nat) (a q:Nat),PBase n p → 1 ≤ a → a + f ≤ n → Dn key p a → q + 1 ≤ a →
  (∀ i,a - (q + 1) ≤ i → i < a → Kp key p i = Kp key p (a - 1)) →
  (∀ p' m q',PBase n p' → a ≤ m → m ≤ a + f → Dn key p' m → q' + 1 ≤ m → (∀ i,m - (q' + 1) ≤ i → i < m → Kp key p' i = Kp key p' (m - 1)) → G (p',m,q') s) → (kas_desc f p a q).kasWp cmp G s
 | 0,p,a,q,B,_,_,hd,hq,he,h=>h p a q B (Nat.le_refl _) (Nat.le_refl _) hd hq he
 | f + 1, p, a, q, B, h1, hf, hd, hq, he, h => by
  have hs:=B.size
  show (KasT.ask (p.getD a 0) (p.getD (a - 1) 0) fun c=>if c = true then (if q > 0 then kas_desc f (kas_rev p (a - (q + 1)) a) (a + 1) 0 else kas_desc f p (a + 1) 0)
   else KasT.ask (p.getD (a - 1) 0) (p.getD a 0) fun d=>if d = true then KasT.ret (p,a,q) else kas_desc f p (a + 1) (q + 1)).kasWp cmp G s
  refine ask_ hc (B.lt hn _) (B.lt hn _) (fun z=>?_) (fun z=>?_)
  ·rw [if_pos rfl]
   have z':Kp key p a < Kp key p (a - 1):=z
   have go:∀ p',PBase n p' → (∀ k,Kp key p' k = Kp key p k) → (kas_desc f p' (a + 1) 0).kasWp cmp G s:=fun p' B' e=>by
    refine zja hc hn f p' (a + 1) 0 B' (by omega) (by omega) (fun i j hij hj=>?_) (by omega) (fun i i1 i2=>by congr 1; omega) fun p2 m q2 a1 a2 a3 a4 a5 a6=>h p2 m q2 a1 (by omega) (by omega) a4 a5 a6
    rw [e,e]
    by_cases hja:j < a
    ·exact hd i j hij hja
    ·obtain rfl:j = a:=by omega
     by_cases hi:i = j
     ·subst hi; exact Int.le_refl _
     ·exact Int.le_trans (Int.le_of_lt z') (hd i (j - 1) (by omega) (by omega))
   by_cases hq0:q > 0
   ·rw [if_pos hq0]
    refine go _ (B.rev _ _) fun k=>?_
    rw [zf6 (by omega)]
    split
    ·rename_i hk
     rw [he _ (by omega) (by omega),he k (by omega) hk.2]
    ·rfl
   ·rw [if_neg hq0]
    exact go p B fun _=>rfl
  ·rw [if_neg (by decide)]
   refine ask_ hc (B.lt hn _) (B.lt hn _) (fun y=>?_) (fun y=>?_)
   ·rw [if_pos rfl]
    exact h p a q B (Nat.le_refl _) (by omega) hd hq he
   ·rw [if_neg (by decide)]
    have e:Kp key p a = Kp key p (a - 1):=Int.le_antisymm y z
    refine zja hc hn f p (a + 1) (q + 1) B (by omega) (by omega) (fun i j hij hj=>?_) (by omega) (fun i i1 i2=>?_) fun p2 m q2 a1 a2 a3 a4 a5 a6=>h p2 m q2 a1 (by omega) (by omega) a4 a5 a6
    ·by_cases hja:j < a
     ·exact hd i j hij hja
     ·obtain rfl:j = a:=by omega
      by_cases hi:i = j
      ·subst hi; exact Int.le_refl _
      ·rw [e]; exact hd i (j - 1) (by omega) (by omega)
    ·rw [show a + 1 - 1 = a by omega]
     by_cases hi:i = a
     ·subst hi; rfl
     ·rw [e]; exact he i (by omega) (by omega)
theorem zlB (hc:Says cmp key n s) (hn:0 < n) {p:Array Nat} (B:PBase n p) {a:Nat} {G:Nat × Array Nat → Shared → Prop} (h1:1 ≤ a) (ha:a ≤ n) (hd:Dn key p a)
  (h:∀ m p',PBase n p' → 1 ≤ m → m ≤ n → Up key p' m → G (m,p') s) : (kas_tail3 a n p).kasWp cmp G s:=by
 have hs:=B.size
 unfold kas_tail3
 rw [KasT.kasWp_bind]
 refine zmK hc hn (B.rev 0 a) (n - a) a h1 (by omega) (fun i j hij hj=>?_) fun m m1 m2 m3 _=>h m _ (B.rev 0 a) (by omega) (by omega) m3
 rw [zf6 (by omega),zf6 (by omega),if_pos (by omega),if_pos (by omega)]
 exact hd _ _ (by omega) (by omega)
theorem zlC (hc:Says cmp key n s) (hn:0 < n) {p:Array Nat} (B:PBase n p) {a:Nat} {G:Nat × Array Nat → Shared → Prop} (ha:a + 1 ≤ n) (hd:Dn key p (a + 1))
  (h:∀ m p',PBase n p' → 1 ≤ m → m ≤ n → Up key p' m → G (m,p') s) : (kas_descPart a n p).kasWp cmp G s:=by
 unfold kas_descPart
 rw [KasT.kasWp_bind]
 refine zja hc hn (n - (a + 1)) p (a + 1) 0 B (by omega) (by omega) hd (by omega) (fun i i1 i2=>by congr 1; omega) fun p' m q B' m1 m2 hd' hq he=>?_
 have hs:=B'.size
 show (if q > 0 then kas_tail3 m n (kas_rev p' (m - (q + 1)) m) else kas_tail3 m n p').kasWp cmp G s
 by_cases hq0:q > 0
 ·rw [if_pos hq0]
  have e:∀ k,Kp key (kas_rev p' (m - (q + 1)) m) k = Kp key p' k:=fun k=>by
   rw [zf6 (by omega)]
   split
   ·rename_i hk
    rw [he _ (by omega) (by omega),he k (by omega) hk.2]
   ·rfl
  exact zlB hc hn (B'.rev _ _) (by omega) (by omega) (fun i j hij hj=>by rw [e,e]; exact hd' i j hij hj) h
 ·rw [if_neg hq0]
  exact zlB hc hn B' (by omega) (by omega) hd' h
theorem w_count (hc:Says cmp key n s) (hn:0 < n) {p:Array Nat} (B:PBase n p) {G:Nat × Array Nat → Shared → Prop}
  (h:∀ m p',PBase n p' → 1 ≤ m → m ≤ n → Up key p' m → G (m,p') s) : (kas_count n p).kasWp cmp G s:=by
 have hs:=B.size
 unfold kas_count
 rw [KasT.kasWp_bind]
 have u1:Up key p 1:=fun i j hij hj=>by
  have e:i = j:=by omega
  rw [e]
  exact Int.le_refl _
 refine zmK hc hn B (n - 1) 1 (Nat.le_refl _) (by omega) u1 fun m m1 m2 hu hor=>?_
 by_cases e1:m = n
 ·rw [if_pos (by simpa using e1)]
  exact h m p B m1 (by omega) hu
 ·rw [if_neg (by simpa using e1)]
  have hlt:Kp key p m < Kp key p (m - 1):=hor.resolve_left (by omega)
  by_cases e2:m > 1
  ·rw [if_pos e2]
   refine ask_ hc (B.lt hn _) (B.lt hn _) (fun z=>?_) (fun z=>?_)
   ·rw [if_pos rfl]
    exact h m p B m1 (by omega) hu
   ·rw [if_neg (by decide)]
    have z':Kp key p (m - 1) ≤ Kp key p 0:=z
    have all:∀ k,k < m → Kp key p k = Kp key p 0:=fun k hk=>Int.le_antisymm (Int.le_trans (hu k (m - 1) (by omega) (by omega)) z') (hu 0 k (by omega) hk)
    have e:∀ k,Kp key (kas_rev p 0 m) k = Kp key p k:=fun k=>by
     rw [zf6 (by omega)]
     split
     ·rename_i hk
      rw [all _ (by omega),all k hk.2]
     ·rfl
    refine zlC hc hn (B.rev _ _) (by omega) (fun i j hij hj=>?_) h
    rw [e,e]
    by_cases hjm:j < m
    ·rw [all i (by omega),all j hjm]; exact Int.le_refl _
    ·obtain rfl:j = m:=by omega
     by_cases hi:i = j
     ·subst hi; exact Int.le_refl _
     ·have:=all i (by omega)
      have:=all (j - 1) (by omega)
      omega
  ·rw [if_neg e2]
   obtain rfl:m = 1:=by omega
   refine zlC hc hn B (by omega) (fun i j hij hj=>?_) h
   by_cases hi:i = j
   ·subst hi; exact Int.le_refl _
   ·obtain rfl:i = 0:=by omega
    obtain rfl:j = 1:=by omega
    exact Int.le_of_lt hlt
theorem zgS (hc:Says cmp key n s) (hn:0 < n) {p:Array Nat} (B:PBase n p) {k:Nat} (hk:k < n) (hu:Up key p k) {G:Nat → Shared → Prop}
  (h:∀ l,l ≤ k → (∀ i,i < l → Kp key p i ≤ Kp key p k) → (∀ i,l ≤ i → i < k → Kp key p k < Kp key p i) → G l s) : ∀ (f l r:Nat),r ≤ l + f → l ≤ r → r ≤ k →
  (∀ i,i < l → Kp key p i ≤ Kp key p k) → (∀ i,r ≤ i → i < k → Kp key p k < Kp key p i) → (kas_place p k f l r).kasWp cmp G s
 | 0,l,r,hf,hlr,hr,h1,h2=>h l (by omega) h1 fun i a b=>h2 i (by omega) b
 | f + 1, l, r, hf, hlr, hr, h1, h2 => by
  show (if l ≥ r then KasT.ret l else KasT.ask (p.getD k 0) (p.getD ((l + r) / 2) 0) fun c=>if c = true then kas_place p k f l ((l + r) / 2) else kas_place p k f ((l + r) / 2 + 1) r).kasWp cmp G s
  by_cases hge:l ≥ r
  ·rw [if_pos hge]
   exact h l (by omega) h1 fun i a b=>h2 i (by omega) b
  ·rw [if_neg hge]
   refine ask_ hc (B.lt hn _) (B.lt hn _) (fun z=>?_) (fun z=>?_)
   ·rw [if_pos rfl]
    have z':Kp key p k < Kp key p ((l + r) / 2):=z
    refine zgS hc hn B hk hu h f l ((l + r) / 2) (by omega) (by omega) (by omega) h1 fun i a b=>?_
    exact Int.lt_of_lt_of_le z' (hu _ _ a b)
   ·rw [if_neg (by decide)]
    have z':Kp key p ((l + r) / 2) ≤ Kp key p k:=z
    refine zgS hc hn B hk hu h f ((l + r) / 2 + 1) r (by omega) (by omega) hr (fun i a=>?_) h2
    exact Int.le_trans (hu i ((l + r) / 2) (by omega) (by omega)) z'
theorem znu (hc:Says cmp key n s) (hn:0 < n) {G:Array Nat → Shared → Prop} (h:∀ p,PBase n p → Up key p n → G p s) : ∀ (f k:Nat) (p:Array Nat),PBase n p → k + f = n → Up key p k → (kas_bin f p k).kasWp cmp G s
 | 0,k,p,B,hk,hu=>h p B (by rw [← hk]; exact hu)
 | f + 1, k, p, B, hk, hu => by
  have hs:=B.size
  show ((kas_place p k k 0 k).bind fun l=>kas_bin f (bubble p k (k - l)) (k + 1)).kasWp cmp G s
  rw [KasT.kasWp_bind]
  refine zgS hc hn B (by omega) hu (fun l hl a1 a2=>?_) k 0 k (by omega) (by omega) (Nat.le_refl _) (fun i hi=>by omega) fun i a b=>by omega
  refine znu hc hn h f (k + 1) _ (B.bub _ _) (by omega) fun i j hij hj=>?_
  rw [zlu (by omega) hl,zlu (by omega) hl]
  by_cases hi:i = l
  ·rw [if_pos hi]
   by_cases hjl:j = l
   ·rw [if_pos hjl]; exact Int.le_refl _
   ·rw [if_neg hjl,if_pos (by omega)]
    exact Int.le_of_lt (a2 _ (by omega) (by omega))
  ·rw [if_neg hi]
   by_cases hjl:j = l
   ·rw [if_pos hjl,if_neg (by omega)]
    exact a1 i (by omega)
   ·rw [if_neg hjl]
    by_cases hi2:l < i ∧ i ≤ k
    ·rw [if_pos hi2,if_pos (by omega)]
     exact hu _ _ (by omega) (by omega)
    ·rw [if_neg hi2]
     by_cases hj2:l < j ∧ j ≤ k
     ·rw [if_pos hj2]
      exact hu _ _ (by omega) (by omega)
     ·rw [if_neg hj2]
      exact hu _ _ hij (by omega)
theorem w_sort (hc:Says cmp key n s) (hn:0 < n) {G:Array Nat → Shared → Prop} (h:∀ p,PBase n p → Up key p n → G p s) : (kas_sort n).kasWp cmp G s:=by
 unfold kas_sort
 rw [KasT.kasWp_bind]
 refine w_count hc hn ⟨by simp⟩ fun m p' B m1 m2 hu=>?_
 show (if m < n then kas_bin (n - max m 1) p' (max m 1) else KasT.ret p').kasWp cmp G s
 have e:max m 1 = m:=by omega
 by_cases hm:m < n
 ·rw [if_pos hm,e]
  exact znu hc hn h (n - m) m p' B (by omega) hu
 ·rw [if_neg hm]
  obtain rfl:m = n:=by omega
  exact h p' B hu
end
end Wr
namespace L2
open PySem PySem.Spec PyProof.Rows
abbrev atA (X:Cx) (A:Around) : Cx:={ X with A:=A }
section
variable {X:Cx} {pins:List (Addr × Obj)} {σ:St} {H:Hp} {s:Shared} {A:Around}
theorem znN (I:Inv X pins σ H s) (h1:X.calm = true → A.handled = none) (h2:A.frames = some X.stack) : Inv (atA X A) pins σ H s :=
 have o:=I.ok
 ⟨⟨o.mod,o.kind,o.glob,o.blt,o.above,o.inj,o.has,o.cab,h1,h2,o.stk,o.exf,o.bs,o.bsz,o.noex,o.exfs,o.funs,o.frf⟩,I.os,I.bare,I.base,I.loc,I.cell,I.free,I.freeC,I.pin,I.hok,I.len⟩
theorem zoe (I:Inv (atA X A) pins σ H s) (h1:X.calm = true → X.A.handled = none) (h2:X.A.frames = some X.stack) : Inv X pins σ H s :=
 have o:=I.ok
 ⟨⟨o.mod,o.kind,o.glob,o.blt,o.above,o.inj,o.has,o.cab,h1,h2,o.stk,o.exf,o.bs,o.bsz,o.noex,o.exfs,o.funs,o.frf⟩,I.os,I.bare,I.base,I.loc,I.cell,I.free,I.freeC,I.pin,I.hok,I.len⟩
theorem zmJ (I:Inv X pins σ H s) : Inv (atA X X.A.in1.in1) pins σ H s:=znN I (fun h=>I.ok.hd h) I.ok.frames
theorem Inv.track {b:Addr} {o:HO} {t:Nat} {h':Heap} (I:Inv X pins σ H s) (hf:FpOk X pins H b) (k:∀ c u,c ≠ b → s.heap.get? c = some u → h'.get? c = some u) (hb:∃ u,h'.get? b = some u)
  (new:ObjOk X.prog X.w (upd H b o) h' b o) : Inv X pins σ (upd H b o) { s with heap:=h',toks:=t }:=by
 obtain ⟨f0,f1,f2,f3,f4,f5⟩:=hf
 have nb:∀ c u,H c = some u → c ≠ b:=fun c u e z=>by rw [z,f0] at e; cases e
 refine I.step (g':=s.gens) (d':=s.drawn) (ch:=[b]) (fun c hc=>?_) (fun c u _ _ hc e _=>k c u (fun z=>hc (by simp [z])) e) (fun c u _ _ hc e _=>⟨u.slots,k c u (fun z=>hc (by simp [z])) e⟩)
  (fun c u hc e n=>by rw [zai (fun z=>hc (by simp [z]))]; exact n) (fun c u hc e=>⟨u,k c u (fun z=>hc (by simp [z])) e⟩) (fun c xs e=>by rw [zai (nb c _ e)]; exact e) (fun c u v e=>by rw [zai (nb c _ e)]; exact e)
  (fun c ps e=>⟨#[],by rw [zai (nb c _ e),e]; simp⟩) (fun m hm=>?_) (fun c u e=>?_) I.bare
 ·obtain rfl:c = b:=by simpa using hc
  exact ⟨f3,f1,f4,f5⟩
 ·obtain ⟨ob,es,ep,ho,r⟩:=hm
  exact ⟨ob,es,ep,k _ _ (Ne.symm f1) ho,r⟩
 ·by_cases hc:c = b
  ·subst hc; rw [zaa] at e; cases e; exact new
  ·rw [zai hc] at e
   refine (I.hok c u e).stay (fun d v hd q=>k d v ?_ q) (fun d q=>by rw [zai (nb d _ q)]; exact q) fun d xs q=>by rw [zai (nb d _ q)]; exact q
   rcases hd with z | z
   ·rw [z]; exact hc
   ·exact nb d _ z
end
def lexI:List Int → List Int → Bool
 | [],[]=>false
 | [],_ :: _=>true
 | _ :: _,[]=>false
 | a :: x,b :: y=>if a = b then lexI x y else decide (a < b)
theorem zhp:∀ x,lexI x x = false
 | []=>rfl
 | a :: x=>by show (if a = a then lexI x x else _) = false; rw [if_pos rfl]; exact zhp x
theorem zdz:∀ {x y z},lexI x y = true → lexI y z = true → lexI x z = true
 | [],[],_,h,_=>by cases h
 | [],_ :: _,[],_,h=>by cases h
 | [],_ :: _,_ :: _,_,_=>rfl
 | _ :: _,[],_,h,_=>by cases h
 | _ :: _,_ :: _,[],_,h=>by cases h
 | a :: x, b :: y, c :: z, h1, h2 => by
  simp only [lexI] at h1 h2 ⊢
  by_cases e1:a = b
  ·subst e1
   rw [if_pos rfl] at h1
   by_cases e2:a = c
   ·rw [if_pos e2] at h2 ⊢; exact zdz h1 h2
   ·rw [if_neg e2] at h2 ⊢; exact h2
  ·rw [if_neg e1] at h1
   have h1:=of_decide_eq_true h1
   by_cases e2:b = c
   ·subst e2; rw [if_neg e1]; exact decide_eq_true h1
   ·rw [if_neg e2] at h2
    have h2:=of_decide_eq_true h2
    rw [if_neg (by omega)]; exact decide_eq_true (by omega)
theorem zbK:∀ {x y},lexI x y = false → lexI y x = false → x = y
 | [],[],_,_=>rfl
 | [],_ :: _,h,_=>by cases h
 | _ :: _,[],_,h=>by cases h
 | a :: x, b :: y, h1, h2 => by
  simp only [lexI] at h1 h2
  by_cases e:a = b
  ·subst e
   rw [if_pos rfl] at h1 h2
   rw [zbK h1 h2]
  ·rw [if_neg e] at h1
   rw [if_neg (Ne.symm e)] at h2
   have:=of_decide_eq_false h1
   have:=of_decide_eq_false h2
   omega
def zeC (ks:List (List Int)) (x:List Int) : Int:=((ks.filter fun k=>lexI k x).length:Nat)
theorem filter_mono {α:Type} {p q:α → Bool} : ∀ (l:List α),(∀ x ∈ l,p x = true → q x = true) → (l.filter p).length ≤ (l.filter q).length
 | [],_=>Nat.le_refl _
 | x :: l, h => by
  have ih:=filter_mono l fun y hy=>h y (List.mem_cons_of_mem _ hy)
  rw [List.filter_cons,List.filter_cons]
  by_cases e:p x = true
  ·rw [if_pos e,if_pos (h x List.mem_cons_self e),List.length_cons,List.length_cons]; omega
  ·rw [if_neg e]
   split
   ·rw [List.length_cons]; omega
   ·exact ih
theorem zc0 {α:Type} {p q:α → Bool} {a:α} : ∀ (l:List α),(∀ x ∈ l,p x = true → q x = true) → a ∈ l → p a = false → q a = true → (l.filter p).length < (l.filter q).length
 | [],_,h,_,_=>by cases h
 | x :: l, h, hm, h1, h2 => by
  have h':∀ y ∈ l,p y = true → q y = true:=fun y hy=>h y (List.mem_cons_of_mem _ hy)
  have mono:=filter_mono l h'
  rw [List.filter_cons,List.filter_cons]
  rcases List.mem_cons.mp hm with e | hm
  ·subst e
   rw [if_neg (by rw [h1]; decide),if_pos h2,List.length_cons]; omega
  ·have ih:=zc0 l h' hm h1 h2
   by_cases e:p x = true
   ·rw [if_pos e,if_pos (h x List.mem_cons_self e),List.length_cons,List.length_cons]; omega
   ·rw [if_neg e]
    split
    ·rw [List.length_cons]; omega
    ·exact ih
theorem zi9 {ks:List (List Int)} {x y:List Int} (hx:x ∈ ks) : decide (zeC ks x < zeC ks y) = lexI x y:=by
 cases e:lexI x y with
 | true =>
  refine decide_eq_true ?_
  have:=zc0 (p:=fun k=>lexI k x) (q:=fun k=>lexI k y) (a:=x) ks (fun z _ h=>zdz h e) hx (zhp x) e
  unfold zeC; omega
 | false =>
  refine decide_eq_false ?_
  have:=filter_mono (p:=fun k=>lexI k y) (q:=fun k=>lexI k x) ks fun z _ h=>by
   cases q:lexI y x with
   | true=>exact zdz h q
   | false=>rw [zbK e q]; exact h
  unfold zeC; omega
section
variable {prog:Program} {w:World} {A:Around} {E:Value → Shared → Prop} {s:Shared}
theorem zhm {flag:Bool} {Q:Bool → Shared → Prop} : ∀ (xs ys:List Int) (us vs:List Value) (i:Nat) (fin:Bool),IntsAre us xs → IntsAre vs ys →
  (fin = decide (xs.length < ys.length)) → Q (lexI xs ys) s → PySem.W.KatLex prog w A flag fin Q (us.zip vs) i s
 | [],[],_,_,_,_,.nil,.nil,e,h=>by
  subst e
  exact PySem.W.kat_nil h
 | [],_ :: _,_,_,_,_,.nil,.cons _ _ _,e,h=>by
  subst e
  exact PySem.W.kat_nil h
 | _ :: _,[],_,_,_,_,.cons _ _ _,.nil,e,h=>by
  subst e
  exact PySem.W.kat_nil h
 | a :: xs, b :: ys, _, _, i, fin, .cons _ t hx, .cons _ u hy, e, h => by
  rw [List.zip_cons_cons]
  refine PySem.W.kat_cons (wpAny_eqBool_int ?_)
  simp only [lexI] at h
  by_cases q:a = b
  ·subst q
   rw [if_pos rfl] at h
   rw [beq_self_eq_true]
   refine PySem.W.kat_yes (zhm xs ys _ _ (i + 1) fin hx hy ?_ h)
   rw [e]; simp
  ·rw [if_neg q] at h
   rw [beq_eq_false_iff_ne.mpr q]
   refine PySem.W.kat_no ?_
   cases flag && i == 0 with
   | true=>exact oneLt_int h
   | false=>exact PySem.W.kat_one _ _ (lt_int h)
end
end L2
namespace L2
open PySem PySem.Spec PyProof.Rows
def KeyAt (h:Heap) (v:Value) (k:List Int) : Prop:=∃ a us,v = .ref a ∧ IsTup h a (List.toArray us) ∧ IntsAre us k ∧ k ≠ []
theorem KeyAt.keeps {h h':Heap} {v:Value} {k:List Int} (x:KeyAt h v k) (kp:∀ a o,h.get? a = some o → o.cls = .type "tuple" → h'.get? a = some o) : KeyAt h' v k:=by
 obtain ⟨a,us,e,⟨o,ho,hc,n,hd⟩,i,ne⟩:=x
 exact ⟨a,us,e,⟨o,kp a o ho hc,hc,n,hd⟩,i,ne⟩
abbrev KeysAt (h:Heap) : List Value → List (List Int) → Prop:=Paired (KeyAt h)
theorem KeysAt.firsts {h:Heap} : ∀ {vs:List Value} {ks:List (List Int)},KeysAt h vs ks → ∃ fs:List Value,fs.length = vs.length ∧ PySem.W.KatTups h vs fs ∧ ∀ f ∈ fs,∃ i t,f = Value.int i t
 | _,_,.nil=>⟨[],rfl,.nil,fun _ z=>nomatch z⟩
 | _, _, .cons r t => by
  obtain ⟨fs,e,T,F⟩:=KeysAt.firsts t
  obtain ⟨a,us,rfl,⟨o,ho,hc,n,hd⟩,hi,ne⟩:=r
  cases hi with
  | nil=>exact absurd rfl ne
  | cons i tk hr =>
   refine ⟨.int i tk :: fs,by rw [List.length_cons,List.length_cons,e],.cons ho hc hd (by simp) T,fun f hf=>?_⟩
   rcases List.mem_cons.mp hf with z | z
   ·exact ⟨i,tk,z⟩
   ·exact F f z
theorem zbL {α β:Type} {R:α → β → Prop} : ∀ {xs:List α} {ys:List β},Paired R xs ys → ∀ (i:Nat) (a:α) (b:β),i < xs.length → R (xs.getD i a) (ys.getD i b)
 | _,_,.nil,i,_,_,h=>absurd h (Nat.not_lt_zero _)
 | _,_,.cons r t,0,_,_,_=>r
 | _,_,.cons r t,i + 1,a,b,h=>by
  have:=zbL t i a b (Nat.lt_of_succ_lt_succ h)
  simpa using this
theorem zah {α β:Type} {R:α → β → Prop} {x:α} {y:β} (h:R x y) : ∀ {xs:List α} {ys:List β},Paired R xs ys → Paired R (xs ++ [x]) (ys ++ [y])
 | _,_,.nil=>.cons h .nil
 | _,_,.cons r t=>.cons r (zah h t)
section
variable {prog:Program} {w:World} {A:Around} {E:Value → Shared → Prop} {s:Shared}
theorem zf9 {vs:List Value} {ks:List (List Int)} {Q:SortKind → Shared → Prop} (r:KeysAt s.heap vs ks) (hn:0 < vs.length) (h:Q (tuples' true) s) : wpAny (model prog w) A (keyKind' vs.toArray) Q E s:=by
 obtain ⟨fs,e,T,F⟩:=r.firsts
 refine PySem.W.kat_kind (T:=.type "int") T (by omega) (fun v hv=>?_) rfl h
 obtain ⟨i,t,rfl⟩:=F v hv
 exact PySem.W.Looks.of_pure rfl
theorem zgv {vs:List Value} {ks:List (List Int)} (r:KeysAt s.heap vs ks) : Wr.Says (PySem.W.kas_ask prog w A (tuples' true) vs) (fun i=>zeC ks (ks.getD i [])) vs.length s:=by
 intro i j C hi hj h
 have hl:vs.length = ks.length:=Paired.length r
 obtain ⟨a,us,ea,⟨oa,ha,ca,na,da⟩,ia,_⟩:=zbL r i Value.none [] hi
 obtain ⟨b,ws,eb,⟨ob,hb,cb,nb,db⟩,ib,_⟩:=zbL r j Value.none [] hj
 unfold PySem.W.kas_ask
 rw [ea,eb]
 have hm:ks.getD i [] ∈ ks:=by
  have:i < ks.length:=by omega
  simp [this]
 rw [zi9 hm] at h
 refine PySem.W.kat_lt ha da hb db ?_
 refine zhm _ _ _ _ 0 _ (by simpa using ia) (by simpa using ib) ?_ h
 rw [List.size_toArray,List.size_toArray,ia.length,ib.length]
end
def za0 (kf:V → List Int) (ys:List V) : Prop:=ys.Pairwise fun a b=>lexI (kf b) (kf a) = false
theorem zec {α β:Type} (f:α → β) (xs:List α) (a:α) (b:β) (i:Nat) (h:i < xs.length) : (xs.map f).getD i b = f (xs.getD i a):=by simp [h]
theorem zgb {α:Type} (xs:List α) (d:α) (p:List Nat) (h:p.Perm (List.range xs.length)) : (p.map fun i=>xs.getD i d).Perm xs:=by
 refine (h.map _).trans (List.Perm.of_eq ?_)
 apply List.ext_getElem (by simp)
 intro i h1 h2
 simp at h1
 simp [h1]
theorem getD_in {α:Type} (xs:List α) (d:α) (i:Nat) (h:i < xs.length) : xs.getD i d ∈ xs:=by
 have e:xs.getD i d = xs[i]:=by simp [h]
 rw [e]
 exact List.getElem_mem h
theorem zd7 {kf:V → List Int} {xs:List V} {p:Array Nat} (B:Wr.PBase xs.length p) (hu:Wr.Up (fun i=>zeC (xs.map kf) ((xs.map kf).getD i [])) p xs.length) (hn:0 < xs.length) :
  za0 kf (p.toList.map fun i=>xs.getD i .non):=by
 unfold za0
 rw [List.pairwise_map,List.pairwise_iff_getElem]
 intro i j hi hj hij
 have hs:=B.size
 rw [Array.length_toList] at hi hj
 have e1:p.toList[i] = p.getD i 0:=by simp [Array.getD,hi]
 have e2:p.toList[j] = p.getD j 0:=by simp [Array.getD,hj]
 have q:=hu i j (Nat.le_of_lt hij) (by omega)
 have l1:=B.lt hn i
 have l2:=B.lt hn j
 rw [e1,e2]
 unfold Wr.Kp at q
 dsimp only at q
 rw [zec kf xs .non [] _ l1,zec kf xs .non [] _ l2] at q
 have hm:kf (xs.getD (p.getD j 0) .non) ∈ xs.map kf:=List.mem_map.mpr ⟨_,getD_in xs .non _ l2,rfl⟩
 rw [← zi9 hm]
 exact decide_eq_false (Int.not_lt.mpr q)
section
variable {X:Cx} {pins:List (Addr × Obj)} {σ:St} {H:Hp} {s:Shared} {E:Value → Shared → Prop}
theorem FpOk.of {b:Addr} {H':Hp} (h:FpOk X pins H b) (n:H' b = none) : FpOk X pins H' b:=⟨n,h.2⟩
theorem Same.upd {H':Hp} {a:Addr} {o:HO} (h:Same H H') (n:H a = none) : Same H (upd H' a o):=fun b u e=>by rw [zai (zaq e n)]; exact h b u e
def zfP (X:Cx) (A:Around) (f:Value) (H:Hp) (xs:List V) (kf:V → List Int) : Prop :=
 ∀ (pins:List (Addr × Obj)) (s1:Shared) (σ:St) (H1:Hp) (x:V) (u:Value),Inv (atA X A) pins σ H1 s1 → Same H H1 → x ∈ xs → RelV x u →
  wpAny (model X.prog X.w) A (call f [u]) (fun r s2=>∃ t H2,r = .ref t ∧ Inv (atA X A) pins σ H2 s2 ∧ H2 t = some (.tup ((kf x).map V.int)) ∧ Same H1 H2) (fun _ _=>False) s1
theorem zf4:∀ {ns:List Int} {us:List Value},Vals (ns.map V.int) us → IntsAre us ns
 | [],_,.nil=>.nil
 | n :: ns,_,.cons r t=>by
  obtain ⟨tk,rfl⟩:=r
  exact .cons n tk (zf4 t)
theorem ziU {t:Addr} {ks:List Int} (I:Inv X pins σ H s) (h:H t = some (.tup (ks.map V.int))) (ne:ks ≠ []) : KeyAt s.heap (.ref t) ks:=by
 obtain ⟨z,its,r,p⟩:=I.hok t _ h
 exact ⟨t,its,rfl,p,zf4 r,ne⟩
end
end L2
namespace L2
open PySem PySem.Spec PyProof.Rows
section
variable {X:Cx} {pins:List (Addr × Obj)} {σ:St} {H:Hp} {s:Shared} {E:Value → Shared → Prop} {A:Around}
structure Asking (X:Cx) (A:Around) (pins:List (Addr × Obj)) (σ:St) (H:Hp) (D kS:Addr) (e1:Nat) (ks:List (List Int)) (s:Shared) : Prop where
 ex:∃ (H1:Hp) (ts:List Addr) (e:Nat),Inv (atA X A) pins σ H1 s ∧ Same H H1 ∧ FpOk (atA X A) pins H1 D ∧ FpOk (atA X A) pins H1 kS ∧ s.heap.get? D = some (seqObj "list" #[] e1) ∧
  s.heap.get? kS = some (seqObj "list" (List.toArray (ts.map Value.ref)) e) ∧ Paired (fun t k=>H1 t = some (.tup (List.map V.int k))) ts ks
theorem zl0 {ts:List Addr} {ks:List (List Int)} (I:Inv X pins σ H s) (ne:∀ k ∈ ks,k ≠ []) (p:Paired (fun t k=>H t = some (.tup (List.map V.int k))) ts ks) : KeysAt s.heap (ts.map Value.ref) ks:=by
 induction p with
 | nil=>exact .nil
 | cons r t ih=>exact .cons (ziU I r (ne _ List.mem_cons_self)) (ih fun k hk=>ne k (List.mem_cons_of_mem _ hk))
theorem zcb {n:Nat} (h:n < 64) : n ≤ sizeLine:=by rw [sizeLine_eq]; omega
theorem zkB {f:Value} {xs:List V} {kf:V → List Int} {D kS:Addr} {e1:Nat} {ks:List (List Int)} {x:V} {u:Value} {R:Unit → Shared → Prop} (hDK:D ≠ kS) (hc:zfP X A f H xs kf) (hx:x ∈ xs) (r:RelV x u)
    (h64:ks.length < 64) (a:Asking X A pins σ H D kS e1 ks s) (h:∀ s3,Asking X A pins σ H D kS e1 (ks ++ [kf x]) s3 → R () s3) :
    wpAny (model X.prog X.w) A (call f [u]) (fun k s2=>wpAny (model X.prog X.w) A (Builtin.List.listUpdate (.ref kS) (·.push k)) R E s2) (fun _ _=>False) s:=by
  obtain ⟨H1,ts,e,I,sm,fD,fK,oD,oK,pr⟩:=a.ex
  have I1 := I.pinned (fp := [D, kS]) (fun b hb => by rcases List.mem_cons.mp hb with z | z; · rw [z]; exact fD
                                                      · rw [List.mem_singleton.mp z]; exact fK) (fun b hb=>by
    rcases List.mem_cons.mp hb with z | z
    · rw [z]; exact ⟨_,oD,fun v q=>by cases q⟩
    · rw [List.mem_singleton.mp z]; exact ⟨_,oK,fun v q=>by cases q⟩)
  refine wpAny_mono (hc _ s σ H1 x u I1 sm hx r) (fun k s2 ⟨t,H2,ek,I2,ht,sm2⟩=>?_) fun _ _ z=>z
  subst ek
  have pD:=I2.pin (D,seqObj "list" #[] e1) (List.mem_append_right _ (List.mem_append_right _ (zbh (by simp) oD)))
  have pK:=I2.pin (kS,seqObj "list" (List.toArray (ts.map Value.ref)) e) (List.mem_append_right _ (List.mem_append_right _ (zbh (by simp) oK)))
  have I3:=I2.unpinned
  have fD2:FpOk (atA X A) pins H2 D:=FpOk.of fD pD.2.1
  have fK2:FpOk (atA X A) pins H2 kS:=FpOk.of fK pK.2.1
  have hl:ts.length = ks.length:=Paired.length pr
  have hz:(List.toArray (ts.map Value.ref)).size < 64:=by rw [List.size_toArray,List.length_map]; omega
  refine listUpdate_at pK.1 rfl ?_ (zcb hz) (by rw [Array.size_push]; exact Nat.succ_le_succ (zcb hz))
  have sb:=Heap.SameBut.update s2.heap kS (Obj.mapSeq (·.push (Value.ref t)))
  have ea:(List.toArray (ts.map Value.ref)).push (.ref t) = List.toArray ((ts ++ [t]).map Value.ref):=by simp
  have q3:=get?_update_seq pK.1 (·.push (Value.ref t))
  rw [ea] at q3
  exact h _ ⟨H2,ts ++ [t],_,I3.turned (t':=s2.toks) (fun b o hb q=>(sb.2 b hb).trans q) fK2.1 fK2.2.1 fK2.2.2.2.1 fK2.2.2.2.2.1 fK2.2.2.2.2.2,sm.trans sm2,fD2,fK2,(sb.2 D hDK).trans pD.1,q3,
    zah (R:=fun (t:Addr) (k:List Int)=>H2 t = some (.tup (List.map V.int k))) ht (Paired.mapP pr fun c k q=>sm2 c _ q)⟩
theorem zkt {f:Value} {xs:List V} {kf:V → List Int} {D kS:Addr} {e1:Nat} (hDK:D ≠ kS) (hc:zfP X A f H xs kf) {body:Value → PUnit → Sem (ForInStep PUnit)}
  (hb:∀ (u:Value) (s1:Shared) (R:ForInStep PUnit → Shared → Prop),
   wpAny (model X.prog X.w) A (call f [u]) (fun k s2=>wpAny (model X.prog X.w) A (Builtin.List.listUpdate (.ref kS) (·.push k)) (fun _ s3=>R (.yield ⟨⟩) s3) E s2) (fun _ _=>False) s1 →
    wpAny (model X.prog X.w) A (body u ⟨⟩) R E s1) {R:PUnit → Shared → Prop} : ∀ (ys:List V) (us:List Value) (ks:List (List Int)) (s:Shared),(∀ y ∈ ys,y ∈ xs) → Vals ys us → ks.length + ys.length < 64 → Asking X A pins σ H D kS e1 ks s →
   (∀ s',Asking X A pins σ H D kS e1 (ks ++ ys.map kf) s' → R ⟨⟩ s') → wpAny (model X.prog X.w) A (forIn us PUnit.unit body) R E s:=by
 intro ys
 induction ys with
 | nil =>
  intro us ks s _ v _ a h
  cases v
  rw [List.forIn_nil]
  exact wpAny_pure (h s (by rw [List.map_nil,List.append_nil]; exact a))
 | cons y ys ih =>
  intro us ks s hy v hl a h
  cases v with
  | cons r t =>
   rw [List.length_cons] at hl
   rw [List.forIn_cons]
   refine wpAny_bind (hb _ s _ (zkB hDK hc (hy y List.mem_cons_self) r (by omega) a fun s3 a3=>?_))
   refine ih _ (ks ++ [kf y]) s3 (fun z hz=>hy z (List.mem_cons_of_mem _ hz)) t (by rw [List.length_append,List.length_singleton]; omega) a3 fun s' a'=>h s' ?_
   rw [List.map_cons]
   rw [List.append_assoc] at a'
   exact a'
theorem zer:∀ {xs:List V} {us:List Value},Vals xs us → ∀ p:List Nat,Vals (p.map fun i=>xs.getD i .non) (p.map fun i=>us.getD i Value.none)
 | _,_,_,[]=>.nil
 | xs, us, r, i :: p => by
  refine .cons ?_ (zer r p)
  by_cases h:i < xs.length
  ·exact zbL r i .non Value.none h
  ·have hl:=Vals.length r
   have e1:xs.getD i .non = .non:=by simp [Nat.le_of_not_lt h]
   have e2:us.getD i Value.none = Value.none:=by simp [Nat.le_of_not_lt (hl ▸ h)]
   show RelV (xs.getD i .non) (us.getD i Value.none)
   rw [e1,e2]
   rfl
theorem zkp {xs:List V} {us:List Value} {kf:V → List Int} {D kS:Addr} {e1:Nat} {P:PySem.Fin → Shared → Prop} (hDK:D ≠ kS) (r:Vals xs us) (h64:xs.length < 64) (ne:∀ x ∈ xs,kf x ≠ []) (a:Asking X A pins σ H D kS e1 (xs.map kf) s)
  (h:∀ s' H' ys,Inv (atA X A) pins σ H' s' → Same H H' → H' D = some (.lst ys) → ys.Perm xs → za0 kf ys → P (.done (.ret .none)) s') :
  wpAny (model X.prog X.w) A (do let keys ← Builtin.List.listItems (.ref kS); ksk_end D false us.toArray e1 (.ref kS) keys) P E s:=by
 obtain ⟨H1,ts,e,I,sm,fD,fK,oD,oK,pr⟩:=a.ex
 have hD0:H D = none:=by
  cases q:H D with
  | none=>rfl
  | some o=>have:=sm D o q; rw [fD.1] at this; cases this
 have hl:=Vals.length r
 have hlk:ts.length = xs.length:=by have:=Paired.length pr; rw [List.length_map] at this; exact this
 refine wpAny_bind (listItems_at oK rfl ?_)
 have fin:∀ (st:SortSt) (ys:List V) (ws:List Value),Vals ys ws → ws.length < 64 → (arrOf st).map (·.2) = List.toArray ws → failedOf st = none → ys.Perm xs → za0 kf ys → wpAny (model X.prog X.w) A (ksk_tail D false e1 (.ref kS) st) P E s:=by
  intro st ys ws rv hw ho hf hp hs
  have sb:=Heap.SameBut.update s.heap kS (Obj.mapSeq fun _=>(#[] : Array Value))
  have I1:=I.turned (t':=s.toks) (it:=kS) (h':=s.heap.update kS (Obj.mapSeq fun _=>(#[] : Array Value))) (fun b o hb q=>(sb.2 b hb).trans q) fK.1 fK.2.1 fK.2.2.2.1 fK.2.2.2.2.1 fK.2.2.2.2.2
  have oD1:(s.heap.update kS (Obj.mapSeq fun _=>(#[] : Array Value))).get? D = some (seqObj "list" #[] e1):=(sb.2 D hDK).trans oD
  unfold ksk_tail
  dsimp only
  rw [ho]
  have hkz:(List.toArray (ts.map Value.ref)).size < 64:=by rw [List.size_toArray,List.length_map]; omega
  refine wpAny_bind (listUpdate_at oK rfl ?_ (zcb hkz) (Nat.zero_le _))
  refine wpAny_bind (wpAny_letGo ?_)
  refine wpAny_bind (seqEpoch_at oD1 rfl ?_)
  refine wpAny_bind (listUpdate_at oD1 rfl ?_ (Nat.zero_le _) (by rw [if_neg (by decide),List.size_toArray]; exact Nat.le_succ_of_le (zcb hw)))
  rw [hf]
  simp only [bne_self_eq_false,Bool.false_eq_true,if_false]
  have sb2:=Heap.SameBut.update (s.heap.update kS (Obj.mapSeq fun _=>(#[] : Array Value))) D (Obj.mapSeq fun _=>List.toArray ws)
  have q2:=get?_update_seq oD1 fun _=>List.toArray ws
  refine wpAny_pure (h _ (upd H1 D (.lst ys)) ys ?_ (sm.upd hD0) zaa hp hs)
  exact Inv.track (s:={ s with heap:=s.heap.update kS (Obj.mapSeq fun _=>(#[] : Array Value)) }) (t:=s.toks) I1 fD (fun c u hc q=>(sb2.2 c hc).trans q) ⟨_,q2⟩ ⟨by rw [Vals.length rv]; exact zcb hw,ws,_,rv,q2⟩
 unfold ksk_end
 dsimp only
 rw [if_neg (by decide : ¬ false = true)]
 by_cases h2:us.toArray.size < 2
 ·rw [if_pos h2,if_pos h2]
  have h2':us.length < 2:=by rw [List.size_toArray] at h2; exact h2
  refine wpAny_bind (wpAny_pure ?_)
  rw [StateT.run_pure]
  refine wpAny_bind (wpAny_pure ?_)
  dsimp only
  refine fin _ xs us r (by omega) ?_ rfl (List.Perm.refl _) ?_
  ·show ((List.toArray (ts.map Value.ref)).zip us.toArray).map (·.2) = us.toArray
   apply Array.toList_inj.mp
   rw [Array.toList_map,Array.toList_zip]
   rw [List.map_snd_zip]
   simp; omega
  ·unfold za0
   match xs,hl with
   | [],_=>exact .nil
   | [_],_=>exact List.pairwise_singleton _ _
   | _ :: _ :: _,hl=>simp at hl; omega
 ·rw [if_neg h2,if_neg h2]
  have h2':2 ≤ us.length:=by rw [List.size_toArray] at h2; omega
  have K:=zl0 I (fun k hk=>by obtain ⟨x,hx,rfl⟩:=List.mem_map.mp hk; exact ne x hx) pr
  refine wpAny_bind (zf9 K (by rw [List.length_map]; omega) ?_)
  have hlen:(ts.map Value.ref).length = us.length:=by rw [List.length_map]; omega
  refine wpAny_bind (wpAny_mono (PySem.W.kat_run (Q:=fun st' s'=>s' = s ∧ ∃ p:Array Nat,arrOf st' = p.map (PySem.W.kas_item ((List.toArray (ts.map Value.ref)).zip us.toArray)) ∧ failedOf st' = none ∧ Wr.PBase us.length p ∧ Wr.Up (fun i=>zeC (xs.map kf) ((xs.map kf).getD i [])) p us.length)
   (G:=fun p s'=>s' = s ∧ Wr.PBase us.length p ∧ Wr.Up (fun i=>zeC (xs.map kf) ((xs.map kf).getD i [])) p us.length) hlen h2' (by omega) (fun p st' s' a1 a2 a3 a4=>⟨a4.1,p,a2,a3,a4.2⟩) ?_) ?_ fun _ _ z=>z)
  ·have S:=zgv (prog:=X.prog) (w:=X.w) (A:=A) K
   rw [hlen] at S
   exact Wr.w_sort S (by omega) fun p B u=>⟨rfl,B,u⟩
  ·rintro ⟨⟨⟩,st'⟩ s' ⟨rfl,p,e1',hf,B,u⟩
   dsimp only
   have ho:=PySem.W.kat_snds hlen e1'
   rw [← hl] at B u
   refine fin st' _ _ (zer r p.toList) (by rw [List.length_map,Array.length_toList,B.size]; omega) ho hf (zgb xs .non p.toList B.perm) (zd7 B u (by omega))
end
end L2
namespace L2
open PySem PySem.Spec PyProof.Rows
section
variable {X:Cx} {pins:List (Addr × Obj)} {σ:St} {H:Hp} {s:Shared} {E:Value → Shared → Prop} {A:Around}
theorem zh6 {k:Nat} {f:Addr} {fd:FuncData} {p:Str} {sp:Sp} {xs:List V} {kf:V → List Int} (F:FnOk X.prog X.w X.K X.mg X.base CX0 k f fd [p] sp) (hr:Room k A) (hb:Binds X.K fd [p] [])
  (hs:∀ H1 x,Same H H1 → x ∈ xs → sp [x] H1 (fun r H2=>∃ t,r = .ref t ∧ H2 t = some (.tup ((kf x).map V.int)) ∧ Same H1 H2) E0) : zfP X A (.ref f) H xs kf:=by
 intro pins s1 σ H1 x u I sm hx r
 have I':=I.wish (fun _ _=>False)
 refine wpAny_mono (zhM (X:=(atA X A).nox) (dvs:=[]) (ds:=[]) (vs:=[x]) F hr hb .nil ziY I' (.cons r .nil) (hs H1 x sm hx)) (fun v s2 ⟨y,H2,I2,ry,t,e,ht,sm2⟩=>?_) fun _ _ z=>z
 subst e
 cases ry
 exact ⟨t,H2,rfl,I2.unwish,ht,sm2⟩
theorem zgl {l:Addr} {f:Value} {xs:List V} {kf:V → List Int} {Q:VK} (I:Inv X pins σ H s) (hl:SqL X.K H l xs) (h64:xs.length < 64) (ne:∀ x ∈ xs,kf x ≠ []) (hc:∀ H0,Same H H0 → zfP X X.A.in1.in1 f H0 xs kf)
  (ht:∀ a,Builtin.«list.sort» ⟨[.ref a],[(Str.ofString "key", f)]⟩ = ksk_tree a f false)
  (h:∀ D H' ys,Same H H' → H D = none → H' D = some (.lst ys) → ys.Perm xs → za0 kf ys → Q (.ref D) H') :
  wpAny (model X.prog X.w) X.A (call (.builtin "sorted") [.ref l] [(Str.ofString "key", f)]) (EP X pins σ Q) X.xe s:=by
 obtain ⟨us,r,pl,_⟩:=I.list hl
 have hlen:=r.length
 have hz:us.length ≤ sizeLine:=zcb (by omega)
 refine call_function_entry_kw kind_sorted plain_sorted entry_sorted (ksk_s1 _ _) ?_
 unfold Builtin.«sorted»
 refine wpAny_bind (m:=checkCount "sorted" 1 1 _) (wpAny_pure (wpAny_bind (collect_list pl.isList (wpAny_bind (wpAny_newList ?_ hz)) hz)))
 have I1:Inv X pins σ H { s with heap:=(s.heap.push (seqObj "list" #[] 0)).update s.heap.objs.size (Obj.mapSeq (· ++ us.toArray)) }:=I.kept (t':=s.toks) fun b o q=>by
  have hb:b < s.heap.objs.size:=Heap.lt_size q
  rw [Heap.get?_update_other _ _ (Nat.ne_of_gt hb)]
  exact Heap.get?_push_of_some _ q
 generalize hs1:({ s with heap:=(s.heap.push (seqObj "list" #[] 0)).update s.heap.objs.size (Obj.mapSeq (· ++ us.toArray)) } : Shared) = s1 at I1
 have I2:Inv X pins σ H { s1 with heap:=s1.heap.push (seqObj "list" us.toArray 0) }:=I1.kept (t':=s1.toks) fun b o q=>Heap.get?_push_of_some _ q
 have hD:H s1.heap.objs.size = none:=I1.fresh
 have fD:=I1.fpOk (H':=H) (Nat.le_refl _) hD
 have oD:(s1.heap.push (seqObj "list" us.toArray 0)).get? s1.heap.objs.size = some (seqObj "list" us.toArray 0):=Heap.get?_push_size _ rfl
 rw [← hs1] at oD ⊢
 refine wpAny_bind (wpAny_holding (wpAny_call_entry_kw slot_list_sort ⟨_,oD,rfl⟩ entry_list_sort ?_ (ksk_l1 _ _)))
 rw [hs1] at oD
 rw [ht]
 show wpAny _ X.A.in1.in1 (ksk_tree (({ s with heap:=(s.heap.push (seqObj "list" #[] 0)).update s.heap.objs.size (Obj.mapSeq (· ++ us.toArray)) } : Shared).heap.objs.size) f false) _ _
  { (({ s with heap:=(s.heap.push (seqObj "list" #[] 0)).update s.heap.objs.size (Obj.mapSeq (· ++ us.toArray)) } : Shared)) with heap:=(({ s with heap:=(s.heap.push (seqObj "list" #[] 0)).update s.heap.objs.size (Obj.mapSeq (· ++ us.toArray)) } : Shared)).heap.push (seqObj "list" us.toArray 0) }
 rw [hs1]
 generalize hDe:s1.heap.objs.size = D at oD hD fD
 unfold ksk_tree
 have sb:=Heap.SameBut.update (s1.heap.push (seqObj "list" us.toArray 0)) D (Obj.mapSeq fun _=>(#[] : Array Value))
 have q1:=get?_update_seq oD fun _=>(#[] : Array Value)
 have I3:=I2.turned (it:=D) (t':=s1.toks) (h':=(s1.heap.push (seqObj "list" us.toArray 0)).update D (Obj.mapSeq fun _=>(#[] : Array Value))) (fun b o hb q=>(sb.2 b hb).trans q) fD.1 fD.2.1 fD.2.2.2.1 fD.2.2.2.2.1 fD.2.2.2.2.2
 refine wpAny_bind (listItems_at oD rfl (wpAny_bind (listUpdate_at oD rfl ?_ (by rw [List.size_toArray]; exact hz) (Nat.zero_le _))))
 refine wpAny_bind (seqEpoch_at q1 rfl (wpAny_bind (wpAny_newTuple ?_ hz)))
 refine wpAny_bind (wpAny_newList ?_ (Nat.zero_le _))
 refine wpAny_holding ?_
 generalize he1:(if (#[] : Array Value).size == us.toArray.size then 0 else 0 + 1) = e1 at q1
 generalize hh3:(s1.heap.push (seqObj "list" us.toArray 0)).update D (Obj.mapSeq fun _=>(#[] : Array Value)) = h3 at q1 I3
 have I4:Inv X pins σ H { s1 with heap:=h3.push (seqObj "tuple" us.toArray 0) }:=I3.kept (s:={ s1 with heap:=h3 }) (t':=s1.toks) fun b o q=>Heap.get?_push_of_some _ q
 have hK:H (h3.push (seqObj "tuple" us.toArray 0)).objs.size = none:=I4.fresh
 have fK:=I4.fpOk (H':=H) (Nat.le_refl _) hK
 have I5:Inv X pins σ H { s1 with heap:=(h3.push (seqObj "tuple" us.toArray 0)).push (seqObj "list" #[] 0) }:=I4.kept (s:={ s1 with heap:=h3.push (seqObj "tuple" us.toArray 0) }) (t':=s1.toks) fun b o q=>Heap.get?_push_of_some _ q
 have oK:((h3.push (seqObj "tuple" us.toArray 0)).push (seqObj "list" #[] 0)).get? (h3.push (seqObj "tuple" us.toArray 0)).objs.size = some (seqObj "list" #[] 0):=Heap.get?_push_size _ rfl
 have oD2:((h3.push (seqObj "tuple" us.toArray 0)).push (seqObj "list" #[] 0)).get? D = some (seqObj "list" #[] e1):=Heap.get?_push_of_some _ (Heap.get?_push_of_some _ q1)
 have hDK:D ≠ (h3.push (seqObj "tuple" us.toArray 0)).objs.size:=Nat.ne_of_lt (Heap.lt_size (Heap.get?_push_of_some _ q1))
 show wpAny _ _ (ksk_rest D f false us.toArray e1 (.ref (h3.push (seqObj "tuple" us.toArray 0)).objs.size)) _ _ { s1 with heap:=(h3.push (seqObj "tuple" us.toArray 0)).push (seqObj "list" #[] 0) }
 generalize hkS:(h3.push (seqObj "tuple" us.toArray 0)).objs.size = kS at oK fK hDK
 generalize hs5:({ s1 with heap:=(h3.push (seqObj "tuple" us.toArray 0)).push (seqObj "list" #[] 0) } : Shared) = s5 at I5
 have oK':s5.heap.get? kS = some (seqObj "list" #[] 0):=by rw [← hs5]; exact oK
 have oD':s5.heap.get? D = some (seqObj "list" #[] e1):=by rw [← hs5]; exact oD2
 have a0:Asking X X.A.in1.in1 pins σ H D kS e1 [] s5:=⟨H,[],0,zmJ I5,Same.refl _,fD,fK,oD',oK',.nil⟩
 unfold ksk_rest
 refine wpAny_bind (wpAny_rule ?_)
 rw [List.forIn_toArray]
 refine wpAny_bind (zkt hDK (hc H (Same.refl _)) (fun u s6 R h6=>?_) xs us [] s5 (fun _ z=>z) r (by rw [List.length_nil]; omega) a0 fun s6 a6=>?_)
 ·refine wpAny_bind (wpAny_attempt (wpAny_mono h6 (fun k s7 h7=>?_) fun _ _ z=>z.elim))
  exact wpAny_bind (wpAny_mono h7 (fun _ s8 h8=>wpAny_pure h8) fun _ _ z=>z)
 ·rw [List.nil_append] at a6
  refine zkp hDK r h64 ne a6 fun s7 H7 ys I7 sm7 h7 p7 o7=>⟨.none,rfl,?_⟩
  exact wpAny_pure ⟨_,rfl,.ref D,H7,zoe I7 (fun z=>I.ok.hd z) I.ok.frames,rfl,h D H7 ys sm7 hD h7 p7 o7⟩
def ziK (K:PySem.W.Frag) (sp:Sp) (t:TA) : TE:=fun σ H Q=>t σ H fun vs H1=>∃ l xs kf,vs = [.ref l] ∧ SqL K H1 l xs ∧ xs.length < 64 ∧ (∀ x ∈ xs,kf x ≠ []) ∧
 (∀ H2 y,Same H1 H2 → y ∈ xs → sp [y] H2 (fun r H3=>∃ t,r = .ref t ∧ H3 t = some (.tup (List.map V.int (kf y))) ∧ Same H2 H3) E0) ∧
 ∀ D H' ys,Same H1 H' → H1 D = none → H' D = some (.lst ys) → ys.Perm xs → za0 kf ys → Q (.ref D) H'
theorem zhX {k:Nat} {f:Addr} {fd:FuncData} {pn fx:Str} {sp:Sp} {e:Expr} {t:TA} {p pos fp kp:Pos} (F:FnOk X.prog X.w X.K X.mg X.base CX0 k f fd [pn] sp) (hr:Room (k + 2) X.A) (hgs:Gl X "sorted") (hms:X.mg "sorted" = none)
  (hg:Gl X fx) (hm:X.mg fx = some (.ref f)) (hb:Binds X.K fd [pn] []) (he:PA X [e] t) (hd:(fx == ("__debug__" : Str)) = false:=by decide)
  (hs:starEach [e] X.env = [(false,eval e X.env)]:=by rfl) : PE X (.Call (.Name "sorted" p) [e] [⟨some "key", .Name fx fp,kp⟩] pos) (ziK X.K sp t):=by
 intro pins s σ H Q I h
 refine wpAny_Call_Name_kw (zed I hgs hms boot_sorted ?_)
 refine callWith_kw (thn (he pos pins s σ H _ I h) fun us s1 ⟨vs,H1,I1,r1,q1⟩=>?_) (by rw [hs]; rfl) (by rw [hs]; rfl)
 obtain ⟨l,xs,kf,rfl,hl,h64,ne,hk,hq⟩:=q1
 obtain ⟨u,rfl,ru⟩:=Vals.one r1
 cases ru
 refine thn (zmc (nm:=some "key") (kpos:=kp) (zlG (pos:=fp) (v:=.ref f) hg hm rfl hd) zno pos pins s1 σ H1 (fun zs H2=>zs = [.ref f] ∧ H2 = H1) I1 ⟨rfl,rfl⟩) fun kv s2 ⟨zs,H2,I2,r2,e2,e3⟩=>?_
 subst e2; subst e3
 obtain ⟨u,rfl,ru⟩:=Vals.one r2
 cases ru
 show wpAny _ _ (call (.builtin "sorted") [.ref l] [(Str.ofString "key", .ref f)]) _ _ s2
 exact zgl I2 hl h64 ne (fun H0 sm=>zh6 F (hr.in1.in1) hb fun H3 y s3 hy=>hk H3 y (sm.trans s3) hy) (fun a=>ksk_t1 f a) hq
end
end L2
namespace L2
open PySem PySem.Spec PyProof.Rows
mutual
inductive Den (K:PySem.W.Frag) (H:Hp) : V → PyData → Prop
 | non:Den K H .non .none
 | bl (b:Bool) : Den K H (.bl b) (.bool b)
 | int (i:Int) : Den K H (.int i) (.int i)
 | str (x:Str) : Den K H (.str x) (.str x)
 | lst {a:Addr} {xs:List V} {ds:List PyData} : SqL K H a xs → DenAll K H xs ds → Den K H (.ref a) (.list ds)
 | tup {a:Addr} {xs:List V} {ds:List PyData} : SqT K H a xs → DenAll K H xs ds → Den K H (.ref a) (.tuple ds)
inductive DenAll (K:PySem.W.Frag) (H:Hp) : List V → List PyData → Prop
 | nil:DenAll K H [] []
 | cons {x:V} {d:PyData} {xs:List V} {ds:List PyData} : Den K H x d → DenAll K H xs ds → DenAll K H (x :: xs) (d :: ds)
end
section
variable {X:Cx} {pins:List (Addr × Obj)} {σ:St} {H H':Hp} {s:Shared}
mutual
theorem zci (I:Inv X pins σ H s) : ∀ {v:V} {d:PyData} {u:Value},Den X.K H v d → RelV v u → ∃ as,Reads s.heap u d as
 | _,_,_,.non,r=>by cases r; exact ⟨_,.none⟩
 | _,_,_,.bl b,r=>by cases r; exact ⟨_,.bool b⟩
 | _,_,_,.int i,r=>by obtain ⟨t,rfl⟩:=r; exact ⟨_,.int i t⟩
 | _,_,_,.str x,r=>by obtain ⟨t,rfl⟩:=r; exact ⟨_,.str x t⟩
 | _,_,_,.lst hq ha,r=>by
  cases r
  obtain ⟨its,rv,⟨o,n,e,c,dd,da⟩,_⟩:=I.list hq
  obtain ⟨as,q⟩:=zea I ha rv
  exact ⟨_,.list e c da (by simpa using q)⟩
 | _,_,_,.tup hq ha,r=>by
  cases r
  obtain ⟨its,rv,⟨o,e,c,n,da⟩,_⟩:=I.tuple hq
  obtain ⟨as,q⟩:=zea I ha rv
  exact ⟨_,.tuple e c da (by simpa using q)⟩
theorem zea (I:Inv X pins σ H s) : ∀ {vs:List V} {ds:List PyData} {us:List Value},DenAll X.K H vs ds → Vals vs us → ∃ as,ReadsAll s.heap us ds as
 | _,_,_,.nil,.nil=>⟨_,.nil⟩
 | _,_,_,.cons d t,.cons r q=>by
  obtain ⟨as,h1⟩:=zci I d r
  obtain ⟨bs,h2⟩:=zea I t q
  exact ⟨_,.cons h1 h2⟩
end
def rEqD (K:PySem.W.Frag) : R2:=fun x y H Q=>∃ d e,Den K H x d ∧ Den K H y e ∧ SeqAt.shaped d = true ∧ SeqAt.shaped e = true ∧ Q (.bl (PyData.eqv d e)) H
def rNeD (K:PySem.W.Frag) : R2:=fun x y H Q=>∃ d e,Den K H x d ∧ Den K H y e ∧ SeqAt.shaped d = true ∧ SeqAt.shaped e = true ∧ Q (.bl (!PyData.eqv d e)) H
theorem zol (hu:X.A.units + 64 < cLine) : OpR X (compareOp .Eq) (rEqD X.K):=by
 intro pins s σ H x y v u Q I rx ry ⟨d,e,h1,h2,s1,s2,q⟩
 obtain ⟨as,r1⟩:=zci I h1 rx
 obtain ⟨bs,r2⟩:=zci I h2 ry
 exact eq_dataH r1 r2 s1 s2 hu ⟨.bl _,H,I,rfl,q⟩
theorem zm7 (hu:X.A.units + 64 < cLine) : OpR X (compareOp .NotEq) (rNeD X.K):=by
 intro pins s σ H x y v u Q I rx ry ⟨d,e,h1,h2,s1,s2,q⟩
 obtain ⟨as,r1⟩:=zci I h1 rx
 obtain ⟨bs,r2⟩:=zci I h2 ry
 exact ne_dataH r1 r2 s1 s2 hu ⟨.bl _,H,I,rfl,q⟩
def znm (K:PySem.W.Frag) : List V → Hp → VK → Prop:=fun vs H Q=>∃ l bs,vs = [.ref l] ∧ SqL K H l (List.map V.bl bs) ∧ Q (.bl (bs.any id)) H
theorem zdk:∀ {bs:List Bool} {us:List Value},Vals (bs.map V.bl) us → us = bs.map Value.bool
 | [],_,.nil=>rfl
 | b :: bs,_,.cons r t=>by cases r; rw [zdk t]; rfl
theorem any_range (bs:List Bool) : (List.range bs.length).any (fun i=>bs.getD i false) = bs.any id:=by
 have e:bs = (List.range bs.length).map fun i=>bs.getD i false:=by
  apply List.ext_getElem (by simp)
  intro i h1 h2
  simp [h1]
 conv=>rhs; rw [e]
 rw [List.any_map]
 rfl
theorem zfr (hc:X.calm = true) : zcZ X (.builtin "any") (znm X.K):=by
 intro pins s σ H vs us Q I r ⟨l,bs,e,hl,q⟩
 subst e
 obtain ⟨u,rfl,ru⟩:=Vals.one r
 cases ru
 obtain ⟨its,rv,pl,_⟩:=I.list hl
 have ei:=zdk rv
 subst ei
 have hd:X.A.in1.handled = none:=I.ok.hd hc
 have hlt:l < s.heap.objs.size:=by obtain ⟨o,n,e,_⟩:=pl; exact Heap.lt_size e
 refine call_any_walk (wpAny_pyIter_list pl.isList ⟨_,_,_,_,_,_,(fun i=>bs.getD i false),rfl,Walks.list hd _ l (Nat.ne_of_lt hlt) _,⟨⟨_,Heap.get?_push_size _ rfl,rfl,rfl⟩,pl.isList.push _⟩,?_,fun h' tk hk=>?_⟩)
 ·intro i v s' Q' E' hv hq
  have hv':(List.map Value.bool bs)[i]? = some v:=by simpa using hv
  rw [List.getElem?_map] at hv'
  cases e:bs[i]? with
  | none=>rw [e] at hv'; cases hv'
  | some b =>
   rw [e] at hv'
   cases hv'
   have eb:bs.getD i false = b:=by rw [List.getD_eq_getElem?_getD,e]; rfl
   dsimp only at hq
   rw [eb] at hq
   exact wpAny_truthy_bool hq
 ·have ek:(List.map Value.bool bs).toArray.size = bs.length:=by simp
  rw [ek,any_range]
  refine ⟨.bl _,H,I.kept (fun b o q'=>hk b o (fun hm=>?_) (Heap.get?_push_of_some _ q')),rfl,q⟩
  have:b = s.heap.objs.size:=by simpa using hm
  exact absurd (this ▸ Heap.lt_size q') (Nat.lt_irrefl _)
end
end L2
namespace L2
open PySem PySem.Spec PyProof.Rows
abbrev NoX:Value → Shared → Prop:=fun _ _=>False
section
variable {prog:Program} {w:World} {A:Around} {R:Result → Shared → Prop} {s:Shared}
abbrev zio (ifs:List Expr) (env:Env) : Sem Bool:=forIn ifs true fun c r=>if r = true then do let ok ← isTrue c env (eval c env); pure (ForInStep.yield ok) else pure (ForInStep.yield r)
theorem ze3 {elt target iter:Expr} {ifs:List Expr} {scope:Scope} {pos:Pos} {it acc:Value} {env:Env} (I:Nat → Shared → Prop)
  (turn:∀ n s,I n s → wpAny (model prog w) A (pyNext it) (fun r s1=>match r with
   | none=>R (.ok .next) s1
   | some v => wpAny (model prog w) A (letOwnedTupleGo target it v) (fun _ s2 => wpAny (model prog w) A (assign target env v) (fun _ s3 => wpAny (model prog w) A (zio ifs env) (fun ok s4 =>
     if ok = true then wpAny (model prog w) A (eval elt env) (fun x s5=>wpAny (model prog w) A (call (.builtin "list.append") [acc,x]) (fun _ s6=>∃ m,m < n ∧ I m s6) NoX s5) NoX s4
     else ∃ m,m < n ∧ I m s4) NoX s3) NoX s2) NoX s1) NoX s)
  (n:Nat) (h:I n s) : codeAny (model prog w) A (.compLoop (.ListComp elt [⟨target,iter,ifs,0⟩] scope pos) 0 it acc env) R s:=by
 refine codeAny_loop rfl I (fun n s hI=>?_) n h
 show wpAny _ A (Sem.onRaise (compTurn (.ListComp elt [⟨target,iter,ifs,0⟩] scope pos) 0 it acc env) (fun x=>do noteFrame x env; theTreesLotGoes x)) _ _ s
 refine wpAny_noted (wpAny_mono (E:=NoX) ?_ (fun _ _ z=>z) fun _ _ z=>z.elim)
 rw [compTurn_list]
 refine wpAny_bind (wpAny_standAt (wpAny_bind (thn (turn n s hI) fun r s1 h1=>?_)))
 cases r with
 | none=>exact wpAny_pure h1
 | some v =>
  refine wpAny_bind (thn h1 fun _ s2 h2=>wpAny_bind (thn h2 fun _ s3 h3=>wpAny_bind (thn h3 fun ok s4 h4=>?_)))
  cases ok with
  | false=>exact wpAny_pure ⟨rfl,h4⟩
  | true=>exact wpAny_bind (wpAny_bind (thn h4 fun x s5 h5=>wpAny_bind (thn h5 fun _ s6 h6=>wpAny_pure (wpAny_pure ⟨rfl,h6⟩))))
end
abbrev za9 (X:Cx) (pins:List (Addr × Obj)) (scope:Scope) (cl:List (Str × Addr)) (C:Addr) (Nc:List Str) (s3:Shared) (H3:Hp) (fp:List Addr) : Cx :=
 { X with N:=Nc,s₀:=s3,H₀:=H3,env:=compEnvC scope cl C X.env,outer:=X.stack,ex:=fp,fn:=fun _=>false,pn:=X.pn ++ pins,xe:=NoX }
def capt (js:List (Option Nat)) (σ:St) : St:=js.map fun j=>match j with | some j=>(σ[j]?).join | none=>none
structure CompScope (X:Cx) (scope:Scope) (cl:List (Str × Addr)) (Nc:List Str) (js:List (Option Nat)) : Prop where
 clos:closureFor scope X.env = pure cl
 cell:∀ y ∈ scope.names,y.2 ≠ .cell
 kind:scope.kind = .function
 nms:∀ y ∈ scope.names,y.2 = .local → scope.names.lookup y.1 = some .local
 sub:∀ x c,cl.lookup x = some c → X.env.cells.lookup x = some c
 has:∀ x,((relabel scope X.env).names.lookup x = some .cell ∨ (relabel scope X.env).names.lookup x = some .free) → ∃ c,cl.lookup x = some c
 len:js.length = Nc.length
 cap:∀ (i:Nat) (x:Str) (j:Nat),Nc[i]? = some x → js[i]? = some (some j) → X.N[j]? = some x ∧ (X.env.kindOf x = some .cell ∨ X.env.kindOf x = some .free) ∧ ((relabel scope X.env).names.lookup x = some .cell ∨ (relabel scope X.env).names.lookup x = some .free)
section
variable {X:Cx} {pins:List (Addr × Obj)} {σ:St} {H:Hp} {s:Shared} {scope:Scope} {cl:List (Str × Addr)} {Nc:List Str} {js:List (Option Nat)} {C:Addr} {fp:List Addr} {h1:Heap} {tk:Nat} {m:Str → Option Value}
theorem zkP (S:CompScope X scope cl Nc js) (I:Inv X pins σ H s) (hf:∀ b ∈ fp,FpOk X pins H b) (hfo:∀ b ∈ fp,∃ o,s.heap.get? b = some o) (hC:s.heap.objs.size ≤ C) (hn:h1.Ns C m) (k:∀ b o,s.heap.get? b = some o → h1.get? b = some o) :
  Inv (za9 X pins scope cl C Nc s H fp) [] (capt js σ) H { s with heap:=h1,toks:=tk }:=by
 have lt:∀ {b:Addr} {o:Obj},s.heap.get? b = some o → b ≠ C:=fun e=>Nat.ne_of_lt (Nat.lt_of_lt_of_le (Heap.lt_size e) hC)
 have hCn:H C = none:=I.hok.fresh hC
 have hce:∀ x c,cl.lookup x = some c → c ≠ C:=fun x c e=>by
  obtain ⟨v,o,ho,_⟩:=I.cell x c (S.sub x c e)
  exact lt ho
 refine ⟨⟨I.ok.mod,S.kind,I.ok.glob,I.ok.blt,hC,fun x y c e1 e2=>I.ok.inj x y c (S.sub x c e1) (S.sub y c e2),fun x hx=>S.has x hx,(fun x c z=>absurd z Bool.false_ne_true),(fun z=>I.ok.hd z),I.ok.frames,.inl rfl,fun b hb=>?_,I.bs,
  Nat.le_trans I.ok.bsz I.sz,fun b o e hb=>?_,fun b hb hs=>?_,I.stack,I.stkFree⟩,rfl,I.bare,Un.kept k,⟨m,hn,fun i x v e1 e2 e3=>?_⟩,fun x c e=>?_,hCn,fun x c e=>I.freeC x c (S.sub x c e),fun p hp=>?_,I.hok.kept k,?_⟩
 ·obtain ⟨o,ho⟩:=hfo b hb
  exact ⟨lt ho,fun x c e=>(hf b hb).2.2.2.2.1 x c (S.sub x c e)⟩
 ·rcases (hf b hb).2.2.2.1 with z | z
  ·exact I.ok.noex b o e z
  ·exact absurd (Nat.lt_of_lt_of_le (Heap.lt_size e) (Nat.le_trans I.ok.bsz z)) (Nat.lt_irrefl _)
 ·rcases List.mem_cons.mp (I.stkSub b hs) with z | z
  ·exact (hf b hb).2.1 z
  ·exact (hf b hb).2.2.1 z
 ·unfold capt at e2
  rw [List.getElem?_map] at e2
  cases ej:js[i]? with
  | none=>rw [ej] at e2; cases e2
  | some oj =>
   rw [ej] at e2
   cases oj with
   | none=>cases e2
   | some j =>
    have e2':(σ[j]?).join = some v:=Option.some.inj e2
    obtain ⟨c1,c2,c3⟩:=S.cap i x j e1 ej
    have e4:σ[j]? = some (some v):=by
     cases q:σ[j]? with
     | none=>rw [q] at e2'; cases e2'
     | some o=>rw [q] at e2'; cases o with
      | none=>cases e2'
      | some z=>cases e2'; rfl
    obtain ⟨mo,hmo,hl⟩:=I.loc
    have vis:Vis X.env.scope x:=by rcases c2 with z | z; exact .inr (.inl z); exact .inr (.inr z)
    obtain ⟨u,r,l⟩:=hl j x v c1 e4 vis
    refine ⟨u,r,.inr ⟨c3,?_⟩⟩
    rcases l with ⟨z,_⟩ | ⟨_,c,hc,hcell⟩
    ·rcases c2 with y | y <;> rw [z] at y <;> cases y
    ·obtain ⟨c',hc'⟩:=S.has x c3
     have:=S.sub x c' hc'
     rw [hc] at this; cases this
     obtain ⟨o,ho,hd⟩:=hcell
     exact ⟨c,hc',o,k c o ho,hd⟩
 ·obtain ⟨v,o,ho,hd⟩:=I.cell x c (S.sub x c e)
  exact ⟨v,o,k c o ho,hd⟩
 ·have hp':p ∈ X.pn ++ pins:=by simpa using hp
  obtain ⟨e,n,ne,nf,d⟩:=I.pin p hp'
  refine ⟨k _ _ e,n,lt e,fun z=>?_,d⟩
  rcases List.mem_cons.mp (I.stkSub p.1 z) with y | y
  ·exact ne y
  ·exact nf y
 ·show (capt js σ).length = Nc.length
  unfold capt
  rw [List.length_map]
  exact S.len
def zdw (J:It) (g:TG) (tt:TT) (te:TE) (D:Addr) (Q:VK) (σ:St) (H:Hp) : Prop :=
 ∃ W : Nat → Nat → St → Hp → Prop, (∃ m, W 0 m σ H) ∧ ∀ i m σ2 H2, W i m σ2 H2 →
  (J.stop i H2 ∧ Q (.ref D) H2) ∨ (J.go i H2 ∧ ∃ N:St → Hp → Prop,(∀ σ' H',N σ' H' → ∃ m',m' < m ∧ W (i + 1) m' σ' H') ∧
   ∀ x H',J.yld i H2 x H' → g x σ2 H' fun σ3 H3=>tt σ3 H3 fun b H4=>if b = true then te σ3 H4 fun v H5=>∃ ys,H5 D = some (.lst ys) ∧ ys.length < sizeLine ∧ N σ3 (upd H5 D (.lst (ys ++ [v]))) else N σ3 H4)
def PIf (X:Cx) (ifs:List Expr) (t:TT) : Prop :=
 ∀ (pins:List (Addr × Obj)) (s:Shared) (σ:St) (H:Hp) (Q:Bool → Hp → Prop),Inv X pins σ H s → t σ H Q → wpAny (model X.prog X.w) X.A (zio ifs X.env) (TP X pins σ Q) X.xe s
def tYes:TT:=fun _ H Q=>Q true H
theorem zjn:PIf X [] tYes:=fun _ _ _ H _ I h=>wpAny_tests_nil ⟨H,I,h⟩
theorem zju {c:Expr} {t:TT} (h:PT X c t) : PIf X [c] t:=fun pins s σ H Q I hw=>wpAny_tests_one (h pins s σ H Q I hw)
theorem zkc {elt target iter:Expr} {ifs:List Expr} {pos:Pos} {g:TG} {tt:TT} {te:TE} {Q:VK} {J:It} {it D:Addr} {tn:Nat → Heap → Prop} {R:Result → Shared → Prop} {s4:Shared} {σc:St} {Hc:Hp}
  (hc:X.calm = true) (T:Turn X.prog X.w X.K target J fp it tn) (hf:∀ b ∈ fp,FpOk X pins H b)
  (hg:PG (za9 X pins scope cl C Nc s H fp) target g) (ht:PIf (za9 X pins scope cl C Nc s H fp) ifs tt) (he:PE (za9 X pins scope cl C Nc s H fp) elt te)
  (I:Inv (za9 X pins scope cl C Nc s H fp) [] σc Hc s4) (st:tn 0 s4.heap) (fr:∀ b ∈ fp,Hc b = none) (hw:zdw J g tt te D Q σc Hc)
  (h:∀ s' σ' H',Inv (za9 X pins scope cl C Nc s H fp) [] σ' H' s' → (∀ b ∈ fp,H' b = none) → Q (.ref D) H' → R (.ok .next) s') :
  codeAny (model X.prog X.w) X.A (.compLoop (.ListComp elt [⟨target,iter,ifs,0⟩] scope pos) 0 (.ref it) (.ref D) (compEnvC scope cl C X.env)) R s4:=by
 obtain ⟨W,⟨m0,w0⟩,turn⟩:=hw
 have ok:=I.ok
 have stat:∀ {H':Hp},(∀ b ∈ fp,H' b = none) → ∀ b ∈ fp,FpOk (za9 X pins scope cl C Nc s H fp) [] H' b:=fun hn b hb =>
  ⟨hn b hb,(ok.exf b hb).1,ok.exfs b hb,.inl hb,(ok.exf b hb).2,fun p hp=>(hf b hb).2.2.2.2.2 p (by simpa using hp)⟩
 refine ze3 (fun n s'=>∃ i σ' H',Inv (za9 X pins scope cl C Nc s H fp) [] σ' H' s' ∧ tn i s'.heap ∧ (∀ b ∈ fp,H' b = none) ∧ W i n σ' H') ?_ m0 ⟨0,σc,Hc,I,st,fr,w0⟩
 rintro n s5 ⟨i,σ5,H5,I5,st5,fr5,w5⟩
 rcases turn i n σ5 H5 w5 with ⟨stop,qn⟩ | ⟨go,N,hN,step⟩
 ·refine thn (T.done (za9 X pins scope cl C Nc s H fp) rfl rfl rfl hc i [] s5 σ5 H5 NoX I5 (stat fr5) st5 stop) fun r s6 ⟨hr,I6⟩=>?_
  subst hr
  exact h s6 σ5 H5 I6 fr5 qn
 ·refine thn (T.item (za9 X pins scope cl C Nc s H fp) rfl rfl rfl hc i [] s5 σ5 H5 NoX I5 (stat fr5) st5 go) fun r s6 ⟨u,hr,h6⟩=>?_
  subst hr
  refine thn h6 fun _ s7 ⟨x,H7,I7,r7,y7,st7,fr7⟩=>?_
  have I7':=I7.pinned (stat fr7) (T.obj _ _ st7)
  refine thn (hg _ s7 σ5 H7 x u _ I7' r7 (step x H7 y7)) fun _ s8 ⟨σ8,H8,I8,q8⟩=>?_
  refine thn (ht _ s8 σ8 H8 _ I8 q8) fun b s9 ⟨H9,I9,q9⟩=>?_
  have again:∀ {σ':St} {H':Hp} {s':Shared},Inv (za9 X pins scope cl C Nc s H fp) ([] ++ zff fp s7.heap) σ' H' s' → N σ' H' → ∃ m,m < n ∧ ∃ i σ' H',Inv (za9 X pins scope cl C Nc s H fp) [] σ' H' s' ∧ tn i s'.heap ∧ (∀ b ∈ fp,H' b = none) ∧ W i m σ' H':=fun {σ' H' s'} J' n'=>by
   obtain ⟨m',hm,w'⟩:=hN σ' H' n'
   have P:∀ b ∈ fp,∀ o,s7.heap.get? b = some o → s'.heap.get? b = some o ∧ H' b = none:=fun b hb o e =>
    have q:=J'.pin (b,o) (List.mem_append_right _ (List.mem_append_right _ (zbh hb e)))
    ⟨q.1,q.2.1⟩
   refine ⟨m',hm,i + 1,σ',H',J'.unpinned,T.keep _ _ _ st7 fun b hb o e=>(P b hb o e).1,fun b hb=>?_,w'⟩
   obtain ⟨o,e,_⟩:=T.obj _ _ st7 b hb
   exact (P b hb o e).2
  cases b with
  | false =>
   rw [if_neg (by decide)]
   exact again I9 q9
  | true =>
   rw [if_pos rfl]
   refine thn (he _ s9 σ8 H9 _ I9 q9) fun v s10 ⟨y,H10,I10,r10,ys,hD,hz,n10⟩=>?_
   refine thn (zeu _ s10 σ8 H10 (.ref D) [y] (.ref D) [v] (fun _ H11=>N σ8 H11) I10 rfl (.cons r10 .nil) ⟨D,ys,y,rfl,rfl,hD,hz,n10⟩) fun _ s11 ⟨_,H11,I11,_,n11⟩=>?_
   exact again I11 n11
end
end L2
namespace L2
open PySem PySem.Spec PyProof.Rows
def zg2 (js:List (Option Nat)) (wi:TI) (g:TG) (tt:TT) (te:TE) : TE:=fun σ H Q=>wi σ H fun J H1=>∀ D,H1 D = none → zdw J g tt te D Q (capt js σ) (upd H1 D (.lst []))
def Inner (X:Cx) (scope:Scope) (cl:List (Str × Addr)) (Nc:List Str) (target elt:Expr) (ifs:List Expr) (g:TG) (tt:TT) (te:TE) : Prop :=
 ∀ (pins:List (Addr × Obj)) (C:Addr) (s3:Shared) (H3:Hp) (fp:List Addr),PG (za9 X pins scope cl C Nc s3 H3 fp) target g ∧ PIf (za9 X pins scope cl C Nc s3 H3 fp) ifs tt ∧ PE (za9 X pins scope cl C Nc s3 H3 fp) elt te
section
variable {X:Cx} {pins:List (Addr × Obj)} {σ:St} {H:Hp} {s:Shared} {scope:Scope} {cl:List (Str × Addr)} {Nc:List Str} {js:List (Option Nat)} {target elt iter:Expr} {ifs:List Expr} {pos:Pos} {wi:TI} {g:TG} {tt:TT} {te:TE}
theorem zfc {Q:VK} {J:It} {it:Addr} {fp:List Addr} {tn:Nat → Heap → Prop} {RR:Value → Addr → Result → Shared → Prop} {E:Value → Shared → Prop} (hc:X.calm = true) (S:CompScope X scope cl Nc js) (B:Inner X scope cl Nc target elt ifs g tt te)
  (I:Inv X pins σ H s) (T:Turn X.prog X.w X.K target J fp it tn) (st:tn 0 s.heap) (hf:∀ b ∈ fp,FpOk X pins H b) (hw:∀ D,H D = none → zdw J g tt te D Q (capt js σ) (upd H D (.lst [])))
  (h:∀ D C s' H' m,Inv X pins σ H' s' → s'.heap.Ns C m → FpOk X pins H' C → Q (.ref D) H' → RR (.ref D) C (.ok .next) s') :
  wpAny (model X.prog X.w) X.A (newList []) (fun acc s3=>wpAny (model X.prog X.w) X.A (newFunctionEnv scope X.env.globals cl [] X.env.qual none .none (some X.env)) (fun cenv s4 =>
   codeAny (model X.prog X.w) X.A (.compStart (.ListComp elt [⟨target,iter,ifs,0⟩] scope pos) 0 (.ref it) acc { cenv with scope:=relabel scope X.env }) (RR acc cenv.locals) s4) E s3) E s:=by
 have hD:H s.heap.objs.size = none:=I.fresh
 have I3:Inv X pins σ (upd H s.heap.objs.size (.lst [])) { s with heap:=s.heap.push { cls:=.type "list", data:=.seq ([] : List Value).toArray } }:=I.lnew (t':=s.toks) (its:=[]) (ys:=[]) .nil (Nat.zero_le _)
 refine wpAny_newList (wpAny_newFunctionEnv S.cell (fun y hy=>by cases hy) (fun h1 hn hsb=>?_) S.kind) (Nat.zero_le _)
 generalize hs3:({ s with heap:=s.heap.push { cls:=.type "list", data:=.seq ([] : List Value).toArray } } : Shared) = s3 at I3
 have hn':h1.Ns s3.heap.objs.size (fun x=>([] : List (Str × Value)).reverse.lookup x):=by rw [← hs3]; exact hn
 have hsb':Heap.SameBut s3.heap.objs.size (s3.heap.push { cls:=.type "dict", data:=.dict #[] }) h1:=by rw [← hs3]; exact hsb
 have kp:∀ b o,s3.heap.get? b = some o → h1.get? b = some o:=fun b o e=>(hsb'.2 b (Nat.ne_of_lt (Heap.lt_size e))).trans (Heap.get?_push_of_some _ e)
 have fpo:∀ b ∈ fp,∃ o,s.heap.get? b = some o:=fun b hb=>let ⟨o,e,_⟩:=T.obj 0 _ st b hb; ⟨o,e⟩
 have k2:∀ b o,s.heap.get? b = some o → s3.heap.get? b = some o:=fun b o e=>by rw [← hs3]; exact Heap.get?_push_of_some _ e
 have hf3:∀ b ∈ fp,FpOk X pins (upd H s.heap.objs.size (.lst [])) b:=fun b hb=>by
  refine FpOk.of (hf b hb) ?_
  obtain ⟨o,e⟩:=fpo b hb
  rw [zai (Nat.ne_of_lt (Heap.lt_size e))]
  exact (hf b hb).1
 have Ic:Inv (za9 X pins scope cl s3.heap.objs.size Nc s3 (upd H s.heap.objs.size (.lst [])) fp) [] (capt js σ) (upd H s.heap.objs.size (.lst [])) { s3 with heap:=h1,toks:=s3.toks + 0 } :=
  zkP S I3 hf3 (fun b hb=>let ⟨o,e⟩:=fpo b hb; ⟨o,k2 b o e⟩) (Nat.le_refl _) hn' kp
 have st4:tn 0 h1:=T.keep 0 _ _ st fun b hb o e=>kp b o (k2 b o e)
 obtain ⟨b1,b2,b3⟩:=B pins s3.heap.objs.size s3 (upd H s.heap.objs.size (.lst [])) fp
 have loop:codeAny (model X.prog X.w) X.A (.compLoop (.ListComp elt [⟨target,iter,ifs,0⟩] scope pos) 0 (.ref it) (.ref s.heap.objs.size) (compEnvC scope cl s3.heap.objs.size X.env)) (RR (.ref s.heap.objs.size) s3.heap.objs.size) { s3 with heap:=h1,toks:=s3.toks + 0 }:=by
  refine zkc hc T hf3 b1 b2 b3 Ic st4 (fun b hb=>(hf3 b hb).1) (hw _ hD) fun s' σ' H' I' fr' q'=>?_
  obtain ⟨m,hm,_⟩:=I'.loc
  have Io:Inv X pins σ H' s':=I3.call' (ch:=fp) I'.os I'.base I'.hok I'.bare fun b hb=>⟨(hf3 b hb).2.2.2.1,(hf3 b hb).2.1,(hf3 b hb).2.2.2.2.1,(hf3 b hb).2.2.2.2.2⟩
  exact h _ _ s' H' m Io hm (I3.fpOk (Nat.le_refl _) I'.free) q'
 exact codeAny_compStart_list loop (T.self X.A 0 _ _ _ (show tn 0 h1 from st4) loop)
theorem Inv.lettingGo {C:Addr} {h':Heap} (I:Inv X pins σ H s) (f:FpOk X pins H C) (hs:Heap.SameBut C s.heap h') : Inv X pins σ H { s with heap:=h' } :=
 I.turned (t':=s.toks) (fun b o hb e=>(hs.2 b hb).trans e) f.1 f.2.1 f.2.2.2.1 f.2.2.2.2.1 f.2.2.2.2.2
theorem zmk (hc:X.calm = true) (S:CompScope X scope cl Nc js) (hi:PI X target iter wi) (B:Inner X scope cl Nc target elt ifs g tt te) (hs:∀ x,foldedSetIterable iter X.env x = pure x:=by intro _; rfl) :
  PE X (.ListComp elt [⟨target,iter,ifs,0⟩] scope pos) (zg2 js wi g tt te):=by
 intro pins s σ H Q I h
 rw [eval_ListComp]
 refine wpAny_comprehension_free (use:=none) rfl hs S.clos S.kind S.nms (thn (hi pins s σ H _ I h) fun xv s1 h1=>thn h1 fun itv s2 h2=>?_)
 obtain ⟨it,fp,tn,J,H2,e,I2,T,st2,f2,hw⟩:=h2
 subst e
 refine zfc hc S B I2 T st2 f2 hw fun D C s' H' m I' hm fC q=>?_
 exact ⟨m,hm,fun h' hs'=>⟨.ref D,H',I'.lettingGo fC hs',rfl,q⟩⟩
theorem zim {i:Nat} {x:Str} {pos' spos:Pos} (hN:X.N.Nodup) (hix:X.N[i]? = some x) (hx:Loc X.env.scope x) (hc:X.calm = true) (S:CompScope X scope cl Nc js) (hi:PI X target iter wi) (B:Inner X scope cl Nc target elt ifs g tt te)
  (hs:∀ x,foldedSetIterable iter X.env x = pure x:=by intro _; rfl)
  (hsw:swapsWith (.ListComp elt [⟨target,iter,ifs,0⟩] scope pos) (some (.Name x pos')) spos.line X.env = pure true:=by rfl)
  (hf:X.fn x = true ∨ X.env.scope.names.lookup x = some .local:=by first | exact .inl rfl | exact .inr rfl | assumption) :
  PS X (.Assign [.Name x pos'] (.ListComp elt [⟨target,iter,ifs,0⟩] scope pos) spos) (tAsg (zg2 js wi g tt te) (zaw i)):=by
 intro pins s σ H D I h
 rw [exec_Assign_Name_used _ _ _ _ hsw]
 refine wpAny_bind (wpAny_standAt (wpAny_bind ?_))
 show wpAny _ X.A (do let _ ← comprehension (.ListComp elt [⟨target,iter,ifs,0⟩] scope pos) scope X.env _ (newList []) false (eval iter X.env) (some (assign (.Name x pos') X.env))) _ _ s
 refine wpAny_bind (thn (wpAny_comprehension_free (use:=some (assign (.Name x pos') X.env)) (Q:=fun _ s'=>SP X pins D .next s') rfl hs S.clos S.kind S.nms (thn (hi pins s σ H _ I h) fun xv s1 h1=>thn h1 fun itv s2 h2=>?_)) fun _ s' hq=>wpAny_pure (wpAny_pure hq))
 obtain ⟨it,fp,tn,J,H2,e,I2,T,st2,f2,hw⟩:=h2
 subst e
 refine zfc (RR:=fun acc C=>compPost (model X.prog X.w) X.A X.xe (some (assign (.Name x pos') X.env)) (fun _ s'=>SP X pins D .next s') acc C) hc S B I2 T st2 f2 hw fun Da C s' H' m I' hm fC q=>?_
 show wpAny (model X.prog X.w) X.A (assign (.Name x pos') X.env (.ref Da)) _ X.xe s'
 obtain ⟨oC,es,ep,hoC,hdC,r⟩:=hm
 have Ip:=I'.pinned (fp:=[C]) (fun b hb=>by rw [List.mem_singleton.mp hb]; exact fC) (fun b hb=>by rw [List.mem_singleton.mp hb]; exact ⟨oC,hoC,fun v z=>by rw [hdC] at z; cases z⟩)
 refine wpAny_assign_Name (zfK Ip hN hix hx (v:=.ref Da) rfl (fun s'' I''=>?_) hf)
 have pC:=I''.pin (C,oC) (List.mem_append_right _ (List.mem_append_right _ (zbh (by simp) hoC)))
 refine ⟨m,⟨oC,es,ep,pC.1,hdC,r⟩,fun h' hs'=>⟨_,H',I''.unpinned.lettingGo fC hs',q⟩⟩
end
theorem zaB {X:Cx} {scope:Scope} {cl:List (Str × Addr)} {Nc:List Str} {js:List (Option Nat)} (clos:closureFor scope X.env = pure cl) (kind:scope.kind = .function)
  (b1:(scope.names.all fun y=>decide (y.2 ≠ .cell)) = true) (b2:(scope.names.all fun y=>decide (y.2 = .local → scope.names.lookup y.1 = some .local)) = true)
  (sub:∀ x c,(x,c) ∈ cl → X.env.cells.lookup x = some c) (b3:((relabel scope X.env).names.all fun y=>!(y.2 == .cell || y.2 == .free) || (cl.lookup y.1).isSome) = true) (len:js.length = Nc.length)
  (b4:((Nc.zip js).all fun y=>match y.2 with
   | none=>true
   | some j=>decide (X.N[j]? = some y.1) && decide (X.env.kindOf y.1 = some .cell ∨ X.env.kindOf y.1 = some .free) && decide ((relabel scope X.env).names.lookup y.1 = some .cell ∨ (relabel scope X.env).names.lookup y.1 = some .free)) = true) : CompScope X scope cl Nc js where
 clos:=clos
 cell:=fun y hy=>of_decide_eq_true (List.all_eq_true.mp b1 y hy)
 kind:=kind
 nms:=fun y hy=>of_decide_eq_true (List.all_eq_true.mp b2 y hy)
 sub:=fun x c h=>sub x c (PySem.mem_of_lookup h)
 has:=fun x hx=>by
  have go:∀ k:NameKind,(k == .cell || k == .free) = true → (relabel scope X.env).names.lookup x = some k → ∃ c,cl.lookup x = some c:=fun k hk e=>by
   have:=List.all_eq_true.mp b3 (x,k) (PySem.mem_of_lookup e)
   dsimp only at this
   rw [hk] at this
   exact Option.isSome_iff_exists.mp (by simpa using this)
  rcases hx with z | z
  ·exact go .cell rfl z
  ·exact go .free rfl z
 len:=len
 cap:=fun i x j h1 h2=>by
  have hm:(x,some j) ∈ Nc.zip js:=by
   have:(Nc.zip js)[i]? = some (x,some j):=by rw [List.getElem?_zip_eq_some]; exact ⟨h1,h2⟩
   exact List.mem_of_getElem? this
  have:=List.all_eq_true.mp b4 _ hm
  dsimp only at this
  rw [Bool.and_eq_true,Bool.and_eq_true] at this
  exact ⟨of_decide_eq_true this.1.1,of_decide_eq_true this.1.2,of_decide_eq_true this.2⟩
section
variable {g:TG} {tt:TT} {te:TE} {Q:VK} {σ:St} {H:Hp} {D:Addr}
theorem zaC {K:PySem.W.Frag} {a:Addr} {xs:List V} (Pv:Nat → List V → St → Hp → Prop) (h0:Pv 0 [] σ H) (hl:∀ i ys σ H,i ≤ xs.length → Pv i ys σ H → SqL K H a xs)
  (hs:∀ i x ys σ H,xs[i]? = some x → Pv i ys σ H → g x σ H fun σ2 H2=>tt σ2 H2 fun b H3=>if b = true then te σ2 H3 fun v H4=>∃ zs,H4 D = some (.lst zs) ∧ zs.length < sizeLine ∧ ∃ ys',Pv (i + 1) ys' σ2 (upd H4 D (.lst (zs ++ [v]))) else ∃ ys',Pv (i + 1) ys' σ2 H3)
  (hd:∀ ys σ H,Pv xs.length ys σ H → Q (.ref D) H) : zdw (Itl K a) g tt te D Q σ H:=by
 refine ⟨fun i m σ H=>m = xs.length - i ∧ i ≤ xs.length ∧ ∃ ys,Pv i ys σ H,⟨xs.length,by simp,Nat.zero_le _,[],h0⟩,?_⟩
 rintro i m σ H ⟨rfl,hi,ys,p⟩
 have q:=hl i ys σ H hi p
 by_cases hlt:i < xs.length
 ·refine .inr ⟨⟨xs,xs[i],q,by simp [hlt]⟩,fun σ' H'=>∃ ys',Pv (i + 1) ys' σ' H',fun σ' H' p'=>⟨xs.length - (i + 1),by omega,rfl,hlt,p'⟩,fun x H' y=>?_⟩
  obtain ⟨e,y⟩:=y
  subst e
  exact hs i x ys σ _ (y xs q) p
 ·have e:i = xs.length:=by omega
  subst e
  exact .inl ⟨⟨xs,q,Nat.le_refl _⟩,hd ys σ H p⟩
theorem zbM {lo:Int} {n:Nat} (Pv:Nat → St → Hp → Prop) (h0:Pv 0 σ H)
  (hs:∀ i σ H,i < n → Pv i σ H → g (.int (lo + i)) σ H fun σ2 H2=>tt σ2 H2 fun b H3=>if b = true then te σ2 H3 fun v H4=>∃ zs,H4 D = some (.lst zs) ∧ zs.length < sizeLine ∧ Pv (i + 1) σ2 (upd H4 D (.lst (zs ++ [v]))) else Pv (i + 1) σ2 H3)
  (hd:∀ σ H,Pv n σ H → Q (.ref D) H) : zdw (Itr lo n) g tt te D Q σ H:=by
 refine ⟨fun i m σ H=>m = n - i ∧ i ≤ n ∧ Pv i σ H,⟨n,by simp,Nat.zero_le _,h0⟩,?_⟩
 rintro i m σ H ⟨rfl,hi,p⟩
 by_cases hlt:i < n
 ·refine .inr ⟨hlt,fun σ' H'=>Pv (i + 1) σ' H',fun σ' H' p'=>⟨n - (i + 1),by omega,rfl,hlt,p'⟩,fun x H' y=>?_⟩
  obtain ⟨e,y⟩:=y
  subst e y
  exact hs i σ _ hlt p
 ·have e:i = n:=by omega
  subst e
  exact .inl ⟨Nat.le_refl _,hd σ H p⟩
end
end L2
namespace Wr
abbrev Stt:=Option Int × Option Int
def inS (m:Int) (s:Stt) : Bool:=(match s.1 with | none=>true | some a=>decide (a ≤ m)) && (match s.2 with | none=>true | some b=>decide (m < b))
def zac (m:Int) (l:List Stt) : Bool:=l.any (inS m)
def okS (s:Stt) : Prop:=∀ a b,s.1 = some a → s.2 = some b → a < b
def Apart (p q:Stt) : Prop:=∃ b c,p.2 = some b ∧ q.1 = some c ∧ b < c
def Can (l:List Stt) : Prop:=(∀ s ∈ l,okS s) ∧ l.Pairwise Apart
theorem zaz {m:Int} {s:Stt} : inS m s = true ↔ (∀ a,s.1 = some a → a ≤ m) ∧ (∀ b,s.2 = some b → m < b):=by
 obtain ⟨x,y⟩:=s
 cases x <;> cases y <;> simp [inS]
theorem zaE {m:Int} {p:Stt} {r:List Stt} : zac m (p :: r) = true ↔ inS m p = true ∨ zac m r = true:=by
 simp [zac]
theorem zam {m:Int} {l:List Stt} : zac m l = true ↔ ∃ s ∈ l,inS m s = true:=by simp [zac]
theorem Can.tail {p:Stt} {r:List Stt} (h:Can (p :: r)) : Can r:=⟨fun s hs=>h.1 s (List.mem_cons_of_mem _ hs),(List.pairwise_cons.mp h.2).2⟩
theorem Can.behind {p:Stt} {r:List Stt} {m:Int} (h:Can (p :: r)) (hm:zac m r = true) : ∃ b,p.2 = some b ∧ b < m:=by
 obtain ⟨q,hq,hi⟩:=zam.mp hm
 obtain ⟨b,c,h1,h2,h3⟩:=(List.pairwise_cons.mp h.2).1 q hq
 have:=(zaz.mp hi).1 c h2
 exact ⟨b,h1,by omega⟩
theorem okS.start {a:Int} {e:Option Int} (h:okS (some a,e)) : inS a (some a,e) = true:=by
 refine zaz.mpr ⟨fun x hx=>?_,fun b hb=>h a b rfl hb⟩
 cases hx; exact Int.le_refl _
theorem zcW {s:Stt} {r:List Stt} (h:okS s) : ∃ m,zac m (s :: r) = true:=by
 obtain ⟨x,y⟩:=s
 cases x with
 | some a=>exact ⟨a,zaE.mpr (.inl h.start)⟩
 | none =>
  cases y with
  | none=>exact ⟨0,zaE.mpr (.inl rfl)⟩
  | some b=>exact ⟨b - 1,zaE.mpr (.inl (by simp [inS]; omega))⟩
def leO:Option Int → Option Int → Prop
 | none,_=>True
 | some _,none=>False
 | some a,some b=>a ≤ b
def zdd (p:Stt) (s:Option Int) : Bool:=(match s with | none=>true | some c=>(match p.2 with | none=>true | some b=>decide (c ≤ b)))
def zdg:Option Int → Option Int → Option Int
 | some a,some b=>some (max a b)
 | _,_=>none
structure Tidy (acc done:List Stt) : Prop where
 can:Can acc
 eq:∀ m,zac m acc = zac m done
theorem zay {m:Int} {l r:List Stt} : zac m (l ++ r) = (zac m l || zac m r):=by simp [zac]
theorem zkz {m:Int} {p x:Stt} (h1:leO p.1 x.1) (h2:zdd p x.1 = true) (ox:okS x) : inS m (p.1,zdg p.2 x.2) = (inS m p || inS m x):=by
 obtain ⟨a,b⟩:=p
 obtain ⟨c,d⟩:=x
 have ox':=ox
 rw [Bool.eq_iff_iff,Bool.or_eq_true]
 cases a <;> cases b <;> cases c <;> cases d <;> simp_all [inS,zdg,leO,zdd,okS] <;> omega
theorem zh1:Tidy [] []:=⟨⟨(fun s hs=>nomatch hs),List.Pairwise.nil⟩,fun m=>rfl⟩
theorem zh5 {x:Stt} (ox:okS x) : Tidy [x] [x]:=⟨⟨fun s hs=>by rw [List.mem_singleton.mp hs]; exact ox,List.pairwise_singleton _ _⟩,fun m=>rfl⟩
theorem zil {init done:List Stt} {p x:Stt} (T:Tidy (init ++ [p]) done) (h1:leO p.1 x.1) (h2:zdd p x.1 = true) (ox:okS x) : Tidy (init ++ [(p.1,zdg p.2 x.2)]) (done ++ [x]):=by
 obtain ⟨⟨o,w⟩,e⟩:=T
 have w':=List.pairwise_append.mp w
 refine ⟨⟨fun s hs=>?_,List.pairwise_append.mpr ⟨w'.1,List.pairwise_singleton _ _,fun q hq z hz=>?_⟩⟩,fun m=>?_⟩
 ·rcases List.mem_append.mp hs with z | z
  ·exact o s (List.mem_append_left _ z)
  ·rw [List.mem_singleton.mp z]
   intro a b ha hb
   have op:=o p (List.mem_append_right _ (by simp))
   obtain ⟨pa,pb⟩:=p
   obtain ⟨xa,xb⟩:=x
   have ha':pa = some a:=ha
   subst ha'
   cases pb <;> cases xb <;> simp [zdg] at hb
   have:=op a _ rfl rfl
   omega
 ·rw [List.mem_singleton.mp hz]
  obtain ⟨b,c,k1,k2,k3⟩:=w'.2.2 q hq p (by simp)
  exact ⟨b,c,k1,k2,k3⟩
 ·have e':=e m
  rw [zay] at e' ⊢
  rw [zay,← e']
  have k:∀ s:Stt,zac m [s] = inS m s:=fun s=>by simp [zac]
  rw [k,k,k,zkz h1 h2 ox,Bool.or_assoc]
theorem zko {init done:List Stt} {p x:Stt} (T:Tidy (init ++ [p]) done) (h1:leO p.1 x.1) (h2:zdd p x.1 = false) (ox:okS x) : Tidy (init ++ [p] ++ [x]) (done ++ [x]):=by
 obtain ⟨⟨o,w⟩,e⟩:=T
 have w':=List.pairwise_append.mp w
 have ap:Apart p x:=by
  obtain ⟨pa,pb⟩:=p
  obtain ⟨xa,xb⟩:=x
  cases xa with
  | none=>simp [zdd] at h2
  | some c =>
   cases pb with
   | none=>simp [zdd] at h2
   | some b=>simp [zdd] at h2; exact ⟨b,c,rfl,rfl,h2⟩
 refine ⟨⟨fun s hs=>?_,List.pairwise_append.mpr ⟨w,List.pairwise_singleton _ _,fun q hq z hz=>?_⟩⟩,fun m=>?_⟩
 ·rcases List.mem_append.mp hs with z | z
  ·exact o s z
  ·rw [List.mem_singleton.mp z]; exact ox
 ·rw [List.mem_singleton.mp hz]
  rcases List.mem_append.mp hq with y | y
  ·obtain ⟨b,c,k1,k2,k3⟩:=w'.2.2 q y p (by simp)
   obtain ⟨b',c',l1,l2,l3⟩:=ap
   refine ⟨b,c',k1,l2,?_⟩
   have op:=o p (List.mem_append_right _ (by simp)) c b' k2 l1
   omega
  ·rw [List.mem_singleton.mp y]; exact ap
 ·rw [zay (l:=init ++ [p]),zay (l:=done),e m]
def Inc (g:List Int) : Prop:=g.Pairwise (· < ·)
def zav (g:List Int) (m:Int) : Nat:=(g.filter fun x=>decide (x ≤ m)).length
def stt (g:List Int) (f l:Nat) : Stt:=(if f = 0 then none else g[f - 1]?,g[l]?)
theorem piece_cons (x:Int) (g:List Int) (m:Int) : zav (x :: g) m = if x ≤ m then zav g m + 1 else zav g m:=by
 unfold zav
 rw [List.filter_cons]
 by_cases h:x ≤ m
 ·simp [h]
 ·simp [h]
theorem zbc (g:List Int) (m:Int) : zav g m ≤ g.length:=List.length_filter_le _ _
theorem ze1 {g:List Int} {m:Int} (h:∀ x ∈ g,m < x) : zav g m = 0:=by
 unfold zav
 rw [List.length_eq_zero_iff,List.filter_eq_nil_iff]
 intro x hx
 have:=h x hx
 simp; omega
theorem zbm:∀ {g:List Int} {m:Int},Inc g → ∀ (i:Nat) (x:Int),g[i]? = some x → (x ≤ m ↔ i < zav g m)
 | [],_,_,i,x,h=>by simp at h
 | y :: g, m, hg, i, x, h => by
  obtain ⟨h1,h2⟩:=List.pairwise_cons.mp hg
  rw [piece_cons]
  cases i with
  | zero =>
   simp at h
   subst h
   by_cases hy:y ≤ m
   ·simp [hy]
   ·rw [if_neg hy,ze1 fun z hz=>by have:=h1 z hz; omega]
    simp [hy]
  | succ i =>
   have h':g[i]? = some x:=by simpa using h
   have ih:=zbm (m:=m) h2 i x h'
   have hyx:=h1 x (List.mem_of_getElem? h')
   by_cases hy:y ≤ m
   ·rw [if_pos hy]; omega
   ·rw [if_neg hy,ze1 fun z hz=>by have:=h1 z hz; omega]
    omega
theorem zel {g:List Int} (hg:Inc g) {f l:Nat} (hf:f ≤ g.length) (m:Int) : inS m (stt g f l) = true ↔ f ≤ zav g m ∧ zav g m ≤ l:=by
 rw [zaz]
 unfold stt
 dsimp only
 have h1:(∀ a,(if f = 0 then none else g[f - 1]?) = some a → a ≤ m) ↔ f ≤ zav g m:=by
  by_cases h0:f = 0
  ·simp [h0]
  ·rw [if_neg h0]
   have hlt:f - 1 < g.length:=by omega
   obtain ⟨x,hx⟩ : ∃ x,g[f - 1]? = some x:=⟨g[f - 1],by simp [hlt]⟩
   have:=zbm (m:=m) hg (f - 1) x hx
   rw [hx]
   constructor
   ·intro h
    have:=h x rfl
    omega
   ·intro h a ha
    cases ha
    omega
 have h2:(∀ b,g[l]? = some b → m < b) ↔ zav g m ≤ l:=by
  cases hx:g[l]? with
  | none =>
   have:g.length ≤ l:=by simpa using hx
   have:=zbc g m
   constructor
   ·intro _; omega
   ·intro _ b hb; cases hb
  | some x =>
   have:=zbm (m:=m) hg l x hx
   constructor
   ·intro h
    have:=h x rfl
    omega
   ·intro h b hb
    cases hb
    omega
 rw [h1,h2]
theorem znl {g:List Int} (hg:Inc g) {i j:Nat} {x y:Int} (hi:g[i]? = some x) (hj:g[j]? = some y) (h:i < j) : x < y:=by
 obtain ⟨h1,e1⟩:=List.getElem?_eq_some_iff.mp hi
 obtain ⟨h2,e2⟩:=List.getElem?_eq_some_iff.mp hj
 have:=List.pairwise_iff_getElem.mp hg i j h1 h2 h
 rw [e1,e2] at this
 exact this
theorem ziA {g:List Int} (hg:Inc g) {f l:Nat} (h:f ≤ l) : okS (stt g f l):=by
 intro a b ha hb
 unfold stt at ha hb
 dsimp only at ha hb
 by_cases h0:f = 0
 ·rw [if_pos h0] at ha; cases ha
 ·rw [if_neg h0] at ha
  exact znl hg ha hb (by omega)
end Wr
namespace L2
open PySem PySem.Spec PyProof.Rows
structure FnP (P:Program) (w:World) (K:PySem.W.Frag) (mg:Str → Option Value) (base:Heap) (k:Nat) (x:Str) (ps:List Str) (sp:Sp) : Prop where
 ex:∃ (f:Addr) (fd:FuncData),FnOk P w K mg base CX0 k f fd ps sp ∧ mg x = some (.ref f) ∧ PySem.W.keepIn K (.ref f) = true ∧ Binds K fd ps []
section
variable {X:Cx} {k j:Nat} {x:Str} {ps:List Str} {sp:Sp} {p pos:Pos} {e:Expr} {es:List Expr} {t:TA}
theorem zot (F:FnP X.prog X.w X.K X.mg X.base k x ps sp) (hr:Room j X.A) (ha:PA X (e :: es) t) (hj:k ≤ j:=by decide) (hg:Gl X x:=by rfl) (hdb:(x == ("__debug__" : Str)) = false:=by decide)
  (he:starEach (e :: es) X.env = (false,eval e X.env) :: starEach es X.env:=by rfl) (hpl:(backTo pos (starEach es X.env)).any (·.1) = false:=by rfl) : PE X (.Call (.Name x p) (e :: es) [] pos) (zcG sp [] E0 t):=by
 obtain ⟨f,fd,F,hm,hk,hb⟩:=F.ex
 exact zmG F (hr.mono hj) hg hm hk hb .nil ziY ha hdb he hpl
theorem zkK {pn:Str} {fp kp:Pos} (F:FnP X.prog X.w X.K X.mg X.base k x [pn] sp) (hr:Room j X.A) (hms:X.mg "sorted" = none) (he:PA X [e] t) (hj:k + 2 ≤ j:=by decide) (hgs:Gl X "sorted" := by rfl) (hg:Gl X x:=by rfl)
  (hd:(x == ("__debug__" : Str)) = false:=by decide) (hs:starEach [e] X.env = [(false,eval e X.env)]:=by rfl) : PE X (.Call (.Name "sorted" p) [e] [⟨some "key", .Name x fp,kp⟩] pos) (ziK X.K sp t):=by
 obtain ⟨f,fd,F,hm,hk,hb⟩:=F.ex
 exact zhX F (hr.mono hj) hgs hms hg hm hb he hd hs
def rIsI (K:PySem.W.Frag) : List V → Hp → VK → Prop:=fun xs H Q=>∃ y T t b,xs = [y,.ty T] ∧ TyOf K H y t ∧ PySem.W.kitOne K t (.type T) = some b ∧ Q (.bl b) H
theorem zj6:zcZ X (.builtin "isinstance") (rIsI X.K):=by
 intro pins s σ H xs us Q I r ⟨y,T,t,b,e,ty,ek,q⟩
 subst e
 obtain ⟨u,w',rfl,r1,r2⟩:=vals2 r
 cases r2
 exact zjH I r1 ty ek fun tk=>⟨.bl b,H,I.tok tk,rfl,q⟩
theorem zcu (K:PySem.W.Frag) (T:String) : PySem.W.kitOne K (.type T) (.type T) = some true:=by
 unfold PySem.W.kitOne
 rw [if_pos (by simp)]
theorem znY {o:Expr} {to:TE} {apos cpos spos:Pos} (ho:PE X o to) (ha:PA X [e] t) (hbase:attributeBase o "append" X.env (eval o X.env) = eval o X.env:=by rfl)
  (hfew:((backTo cpos (starEach [e] X.env)).all (fun x=>!x.1) && (backToKw cpos (keywordEach [] X.env)).all (fun x=>x.1.isSome)
   && decide ([e].length + ([] : List Keyword).length + (if ([] : List Keyword).isEmpty then 0 else 1) < 30)) = true:=by rfl)
  (hline:(apos.endLine == cpos.line) = true:=by rfl) (hs:starEach [e] X.env = (false,eval e X.env) :: starEach [] X.env:=by rfl) (hplain:(backTo cpos (starEach [] X.env)).any (·.1) = false:=by rfl)
  (hsw:swapsWith (.Call (.Attribute o "append" apos) [e] [] cpos) none spos.line X.env = pure false:=by rfl) :
  PS X (.Expr (.Call (.Attribute o "append" apos) [e] [] cpos) spos) (zeX (tBM X.K "list" zbG to t)) :=
 zhi (zkq PySem.F.plainAttrs_list PySem.F.slot_list_append PySem.F.type_list_append zeu ho ha hbase hfew hline hs hplain) hsw
end
open Wr in
def vO:Option Int → V
 | none=>.non
 | some i=>.int i
def dO:Option Int → PyData
 | none=>.none
 | some i=>.int i
def dS (s:Wr.Stt) : PyData:=.tuple [dO s.1,dO s.2]
def StAt (H:Hp) (v:V) (s:Wr.Stt) : Prop:=∃ t,v = .ref t ∧ H t = some (.tup [vO s.1,vO s.2])
abbrev StsAt (H:Hp) : List V → List Wr.Stt → Prop:=Paired (StAt H)
def SpanAt (H:Hp) (a:Addr) (ss:List Wr.Stt) : Prop:=∃ xs,H a = some (.lst xs) ∧ StsAt H xs ss
section
variable {K:PySem.W.Frag} {H H':Hp}
theorem StAt.same {v:V} {s:Wr.Stt} (e:Same H H') (h:StAt H v s) : StAt H' v s:=by obtain ⟨t,h1,h2⟩:=h; exact ⟨t,h1,e _ _ h2⟩
theorem StsAt.same {xs:List V} {ss:List Wr.Stt} (e:Same H H') (h:StsAt H xs ss) : StsAt H' xs ss:=Paired.mapP h fun _ _ q=>q.same e
theorem SpanAt.same {a:Addr} {ss:List Wr.Stt} (e:Same H H') (h:SpanAt H a ss) : SpanAt H' a ss:=by obtain ⟨xs,h1,h2⟩:=h; exact ⟨xs,e _ _ h1,h2.same e⟩
theorem StAt.wr {v:V} {s:Wr.Stt} {l:Addr} {o:HO} (hl:∀ xs,H l ≠ some (.tup xs)) (h:StAt H v s) : StAt (upd H l o) v s:=by
 obtain ⟨t,h1,h2⟩:=h
 exact ⟨t,h1,by rw [zai (fun e=>hl _ (e ▸ h2))]; exact h2⟩
theorem StsAt.wr {xs:List V} {ss:List Wr.Stt} {l:Addr} {o:HO} (hl:∀ xs,H l ≠ some (.tup xs)) (h:StsAt H xs ss) : StsAt (upd H l o) xs ss:=Paired.mapP h fun _ _ q=>q.wr hl
theorem SpanAt.wr {a:Addr} {ss:List Wr.Stt} {l:Addr} {o:HO} (hl:∀ xs,H l ≠ some (.tup xs)) (ne:a ≠ l) (h:SpanAt H a ss) : SpanAt (upd H l o) a ss:=by
 obtain ⟨xs,h1,h2⟩:=h
 exact ⟨xs,by rw [zai ne]; exact h1,h2.wr hl⟩
theorem zaJ {l:Addr} {xs:List V} (h:H l = some (.lst xs)) : ∀ ys,H l ≠ some (.tup ys):=fun ys e=>by rw [h] at e; cases e
theorem zny (o:Option Int) : Den K H (vO o) (dO o):=by cases o with | none=>exact .non | some i=>exact .int i
theorem StAt.den {v:V} {s:Wr.Stt} (h:StAt H v s) : Den K H v (dS s):=by
 obtain ⟨t,rfl,h2⟩:=h
 exact .tup (SqT.of h2) (.cons (zny _) (.cons (zny _) .nil))
theorem StsAt.den:∀ {xs:List V} {ss:List Wr.Stt},StsAt H xs ss → DenAll K H xs (ss.map dS)
 | _,_,.nil=>.nil
 | _,_,.cons r t=>.cons r.den (StsAt.den t)
theorem SpanAt.den {a:Addr} {ss:List Wr.Stt} (h:SpanAt H a ss) : Den K H (.ref a) (.list (ss.map dS)):=by
 obtain ⟨xs,h1,h2⟩:=h
 exact .lst (SqL.of h1) h2.den
theorem zg6 {α β:Type} {R:α → β → Prop} {xs ys:List α} (p:ys.Perm xs) : ∀ {ss:List β},Paired R xs ss → ∃ ts,ts.Perm ss ∧ Paired R ys ts:=by
 induction p with
 | nil=>intro ss h; exact ⟨ss,List.Perm.refl _,h⟩
 | cons x _ ih =>
  intro ss h
  cases h with
  | cons r t =>
   obtain ⟨ts,p,q⟩:=ih t
   exact ⟨_ :: ts,p.cons _,.cons r q⟩
 | swap x y l =>
  intro ss h
  cases h with
  | cons r t =>
   cases t with
   | cons r' t'=>exact ⟨_ :: _ :: _,List.Perm.swap _ _ _,.cons r' (.cons r t')⟩
 | trans _ _ ih1 ih2 =>
  intro ss h
  obtain ⟨ts,p,q⟩:=ih2 h
  obtain ⟨us,p',q'⟩:=ih1 q
  exact ⟨us,p'.trans p,q'⟩
theorem zaj {α β:Type} {R:α → β → Prop} : ∀ {xs:List α} {ss:List β} {i:Nat} {x:α},Paired R xs ss → xs[i]? = some x → ∃ s,ss[i]? = some s ∧ R x s
 | _,_,_,_,.nil,e=>by simp at e
 | _,_,0,_,.cons r _,e=>by simp at e; subst e; exact ⟨_,rfl,r⟩
 | _,_,i + 1,x,.cons _ t,e=>by
  obtain ⟨s,h1,h2⟩:=zaj (i:=i) (x:=x) t (by simpa using e)
  exact ⟨s,by simpa using h1,h2⟩
theorem zcx {α β:Type} {R:α → β → Prop} : ∀ {xs:List α} {ss:List β} {x:α},Paired R xs ss → x ∈ xs → ∃ s,s ∈ ss ∧ R x s
 | _,_,_,.nil,e=>by cases e
 | _, _, x, .cons r t, e => by
  rcases List.mem_cons.mp e with z | z
  ·subst z; exact ⟨_,List.mem_cons_self,r⟩
  ·obtain ⟨s,h1,h2⟩:=zcx t z
   exact ⟨s,List.mem_cons_of_mem _ h1,h2⟩
theorem zdG {α β:Type} {R:α → β → Prop} : ∀ {xs:List α} {init:List β} {p:β},Paired R xs (init ++ [p]) → ∃ xi x,xs = xi ++ [x] ∧ Paired R xi init ∧ R x p
 | _,[],p,h=>by
  cases h with
  | cons r t=>cases t; exact ⟨[],_,rfl,.nil,r⟩
 | _, q :: init, p, h => by
  cases h with
  | cons r t =>
   obtain ⟨xi,x,e,h1,h2⟩:=zdG t
   exact ⟨_ :: xi,x,by rw [e]; rfl,.cons r h1,h2⟩
end
theorem zk9:∀ (l m:List Wr.Stt),PyData.eqv (.list (l.map dS)) (.list (m.map dS)) = decide (l = m):=by
 have ho:∀ a b:Option Int,PyData.eqv (dO a) (dO b) = decide (a = b):=fun a b=>by
  cases a <;> cases b <;> simp [dO,PyData.eqv]
  rename_i x y
  by_cases h:x = y <;> simp [h]
 have all:∀ (l m:List Wr.Stt),PyData.eqvAll (l.map dS) (m.map dS) = decide (l = m):=by
  intro l
  induction l with
  | nil=>intro m; cases m <;> simp [PyData.eqvAll]
  | cons s l ih =>
   intro m
   cases m with
   | nil=>simp [PyData.eqvAll]
   | cons q m =>
    obtain ⟨a,b⟩:=s
    obtain ⟨c,d⟩:=q
    simp only [List.map_cons,PyData.eqvAll,dS,PyData.eqv,ho,ih,Bool.and_true]
    by_cases h1:a = c <;> by_cases h2:b = d <;> by_cases h3:l = m <;> simp [h1,h2,h3]
 intro l m
 rw [PyData.eqv]
 exact all l m
end L2
namespace L2
open PySem PySem.Spec PyProof.Rows
inductive Pln:Expr → Prop
 | name (x p) : Pln (.Name x p)
 | const (c j p) : Pln (.Constant c j p)
 | bin (a o b p) : Pln (.BinOp a o b p)
 | un (o a p) : Pln (.UnaryOp o a p)
 | bool (o l p) : Pln (.BoolOp o l p)
 | cmp (a o l p) : Pln (.Compare a o l p)
 | call (f a k p) : Pln (.Call f a k p)
 | sub (a b p) : Pln (.Subscript a b p)
 | attr (a b p) : Pln (.Attribute a b p)
 | tup (l k p) : Pln (.Tuple l k p)
 | lst (l p) : Pln (.List l p)
 | ife (c a b p) : Pln (.IfExp c a b p)
theorem Pln.star {e:Expr} (h:Pln e) (es:List Expr) (env:Env) : starEach (e :: es) env = (false,eval e env) :: starEach es env:=by cases h <;> rfl
theorem Pln.swap {e:Expr} (h:Pln e) (t:Option Expr) (l:Nat) (env:Env) : swapsWith e t l env = pure false:=by cases h <;> rfl
theorem Pln.fold {e:Expr} (h:Pln e) (env:Env) (x:Value) : foldedSetIterable e env x = pure x:=by cases h <;> rfl
inductive Nst:Expr → Prop
 | pln {e:Expr} (h:Pln e) : Nst e
 | comp (e g s p) : Nst (.ListComp e g s p)
 | lam (a b s p) : Nst (.Lambda a b s p)
theorem Nst.star {e:Expr} (h:Nst e) (es:List Expr) (env:Env) : starEach (e :: es) env = (false,eval e env) :: starEach es env:=by
 cases h with
 | pln h=>exact h.star es env
 | comp=>rfl
 | lam=>rfl
inductive Tru:Expr → Prop
 | name (x p) : Tru (.Name x p)
 | call (f a k p) : Tru (.Call f a k p)
 | sub (a b p) : Tru (.Subscript a b p)
 | attr (a b p) : Tru (.Attribute a b p)
theorem Tru.tru {e:Expr} (h:Tru e) (env:Env) (whole:Sem Value) : isTrue e env whole = (do let v ← whole; standAt e.pos; holding [v] (truthy v)):=by cases h <;> rfl
inductive Nsts:List Expr → Prop
 | nil:Nsts []
 | cons {e:Expr} {es:List Expr} (h:Nst e) (t:Nsts es) : Nsts (e :: es)
theorem Nsts.star {es:List Expr} (h:Nsts es) (env:Env) : starEach es env = es.map fun e=>(false,eval e env):=by
 induction h with
 | nil=>rfl
 | cons h t ih=>rw [h.star,ih]; rfl
theorem Nsts.no {es:List Expr} (h:Nsts es) (env:Env) (pos:Pos) : (backTo pos (starEach es env)).any (·.1) = false:=by
 rw [h.star]
 unfold backTo
 rw [List.map_map,List.any_map]
 simp
structure JE (X:Cx) (e:Expr) (t:TE) : Prop where
 h:PE X e t
structure JT (X:Cx) (e:Expr) (t:TT) : Prop where
 h:PT X e t
structure JW (X:Cx) (e:Expr) (t:TT) : Prop where
 h:PW X e t
structure JA (X:Cx) (es:List Expr) (t:TA) : Prop where
 h:PA X es t
 pl:Nsts es
structure JS (X:Cx) (s:Stmt) (t:TS) : Prop where
 h:PS X s t
structure JB (X:Cx) (s:List Stmt) (t:TS) : Prop where
 h:PSs X s t
structure JG (X:Cx) (e:Expr) (t:TG) : Prop where
 h:PG X e t
structure JGs (X:Cx) (e:List Expr) (t:TGs) : Prop where
 h:PGs X e t
structure JI (X:Cx) (tg e:Expr) (t:TI) : Prop where
 h:PI X tg e t
structure JOp (X:Cx) (f:Value → Value → Sem Value) (r:R2) : Prop where
 h:OpR X f r
structure JUn (X:Cx) (f:Value → Sem Value) (r:V → Hp → VK → Prop) : Prop where
 h:UnR X f r
structure JC (X:Cx) (f:Value) (r:List V → Hp → VK → Prop) : Prop where
 h:zcZ X f r
structure JIx (X:Cx) (r:R2) : Prop where
 h:IxR X r
structure JSet (X:Cx) (t:TSet) : Prop where
 h:PSet X t
section
variable {X:Cx} {k j:Nat} {x:Str} {ps:List Str} {sp:Sp} {p pos:Pos} {a b c e:Expr} {es rest:List Expr} {ta tb te:TE} {tA tB':TT} {t:TA}
theorem zbu:JOp X (binaryOp .Add) (rI0 fun i j=>.int (i + j)):=⟨znx⟩
theorem zgd:JOp X (binaryOp .Sub) (rI0 fun i j=>.int (i - j)):=⟨znQ⟩
theorem zdh:JOp X (binaryOp .Mult) (rI CMul fun i j=>.int (i * j)):=⟨znz⟩
theorem zbf:JOp X (binaryOp .Mod) (rI (fun _ j=>0 < j) fun i j=>.int (i % j)):=⟨znZ⟩
theorem zc5:JOp X (binaryOp .FloorDiv) (rI CDiv fun i j=>.int (i / j)):=⟨zmj⟩
theorem zdv:JOp X (binaryOp .Pow) (rI CPow fun i j=>.int (i ^ j.toNat)):=⟨znC⟩
theorem o_eq:JOp X (compareOp .Eq) rEq:=⟨zoR⟩
theorem o_ne:JOp X (compareOp .NotEq) rNe:=⟨zor⟩
theorem o_lt:JOp X (compareOp .Lt) (rI0 fun i j=>.bl (decide (i < j))):=⟨zou⟩
theorem o_le:JOp X (compareOp .LtE) (rI0 fun i j=>.bl (decide (i ≤ j))):=⟨zoM⟩
theorem o_gt:JOp X (compareOp .Gt) (rI0 fun i j=>.bl (decide (j < i))):=⟨zoE⟩
theorem o_ge:JOp X (compareOp .GtE) (rI0 fun i j=>.bl (decide (j ≤ i))):=⟨zoC⟩
theorem zn0 (hr:Room k X.A) : JOp X (compareOp .Eq) (rEqD X.K):=⟨zol hr.units⟩
theorem zlS (hr:Room k X.A) : JOp X (compareOp .NotEq) (rNeD X.K):=⟨zm7 hr.units⟩
theorem zej:JUn X (unaryOp .USub) (rU fun i=>.int (-i)):=⟨zoh⟩
theorem zaY:JIx X (rIxL X.K):=⟨zlO⟩
theorem zbg:JIx X (rIxT X.K):=⟨znF⟩
theorem zcM:JC X (.builtin "len") (fun xs H Q=>∃ p ys,xs = [.ref p] ∧ (SqL X.K H p ys ∨ SqT X.K H p ys) ∧ Q (.int ys.length) H):=⟨zf5⟩
theorem zoS (hc:X.calm = true:=by rfl) : JC X (.builtin "any") (znm X.K):=⟨zfr hc⟩
theorem zgR:JC X (.builtin "isinstance") (rIsI X.K):=⟨zj6⟩
theorem zoG (hc:X.calm = true:=by rfl) : JC X (.builtin "max") (fun xs H Q=>∃ i j,xs = [.int i,.int j] ∧ Q (.int (if j > i then j else i)) H):=⟨zjr hc⟩
theorem zlA:JC X (.type "list") (fun xs H Q=>∃ p ys,xs = [.ref p] ∧ (SqL X.K H p ys ∨ SqT X.K H p ys) ∧ ∀ l,H l = none → Q (.ref l) (upd H l (.lst ys))):=⟨zgm⟩
theorem znH:JSet X znL:=⟨set_list⟩
theorem e_v (i:Nat) (hN:X.N[i]? = some x:=by rfl) (hv:Vis X.env.scope x:=by first | exact Or.inl rfl | exact Or.inr (Or.inl rfl) | exact Or.inr (Or.inr rfl)) (hd:(x == ("__debug__" : Str)) = false:=by decide +kernel)
  (hcd:(x == ("__classdict__" : Str)) = false:=by decide +kernel) : JE X (.Name x pos) (tVar i):=⟨zns hN hv hd hcd⟩
theorem e_i {i j pos} : JE X (.Constant (.int i) j pos) (tC (.int i)):=⟨znj⟩
theorem e_b {b j pos} : JE X (.Constant (.bool b) j pos) (tC (.bl b)):=⟨zoQ⟩
theorem e_n {j pos} : JE X (.Constant .none j pos) (tC .non):=⟨zoc⟩
theorem e_s {x j pos} : JE X (.Constant (.str x) j pos) (tC (.str x)):=⟨znP⟩
theorem e_op {op:Operator} {r:R2} (ho:JOp X (binaryOp op) r) (ha:JE X a ta) (hb:JE X b tb) : JE X (.BinOp a op b pos) (tOp r ta tb):=⟨zoy ho.h ha.h hb.h⟩
theorem e_un {op:UnaryOp} {r:V → Hp → VK → Prop} (ho:JUn X (unaryOp op) r) (ha:JE X a ta) : JE X (.UnaryOp op a pos) (tUn r ta):=⟨zoK ho.h ha.h⟩
theorem zjQ {op:CmpOp} {r:R2} (ho:JOp X (compareOp op) r) (ha:JE X a ta) (hb:JE X b tb) (h1:op ≠ .In:=by decide) (h2:op ≠ .NotIn:=by decide) : JE X (.Compare a [op] [b] pos) (tOp r ta tb):=⟨zlX ho.h ha.h hb.h (zlc b h1 h2)⟩
theorem zh9 {j pos'} (ha:JE X a ta) : JE X (.Compare a [.Is] [.Constant .none j pos'] pos) (tIsN ta):=⟨zon (zlg ha.h) (zc6 _ (by decide) (by decide))⟩
theorem zha {op} (h:JE X a ta) : JE X (.BoolOp op [a] pos) ta:=⟨znk h.h⟩
theorem zl5 (ha:JE X a ta) (hb:JE X (.BoolOp .And (b :: rest) pos) tb) : JE X (.BoolOp .And (a :: b :: rest) pos) (zlJ ta tb):=⟨znI ha.h hb.h⟩
theorem e_or (ha:JE X a ta) (hb:JE X (.BoolOp .Or (b :: rest) pos) tb) : JE X (.BoolOp .Or (a :: b :: rest) pos) (tOrV ta tb):=⟨zoT ha.h hb.h⟩
theorem zoO (ha:JE X a ta) : JE X (.UnaryOp .Not a pos) (znG ta):=⟨zn3 ha.h⟩
theorem zoN (hc:JT X c tA) (ha:JE X a ta) (hb:JE X b tb) : JE X (.IfExp c a b pos) (tIf tA ta tb):=⟨zkM hc.h ha.h hb.h⟩
theorem e_ix {r:R2} (hr:JIx X r) (ha:JE X a ta) (hb:JE X b tb) (hp:Pln b:=by constructor) : JE X (.Subscript a b pos) (tOp r ta tb):=⟨zoL hr.h ha.h hb.h (by cases hp <;> exact fun _ _=>rfl)⟩
theorem zld {p2:Pos} (ha:JE X a ta) (hb:JE X b tb) : JE X (.Subscript a (.Slice none (some b) none p2) pos) (tSl (rSlL X.K) ta zcl (zeL tb)):=⟨zdf ziM ha.h zfR (zdp hb.h)⟩
theorem a0:JA X [] tNil:=⟨zlq,.nil⟩
theorem ac (ha:JE X e te) (hr:JA X es t) (hp:Pln e:=by constructor) : JA X (e :: es) (zal te t):=⟨ziW ha.h hr.h (hp.star _ _),.cons (.pln hp) hr.pl⟩
theorem a1 (ha:JE X e te) (hp:Pln e:=by constructor) : JA X [e] (zal te tNil):=ac ha a0 hp
theorem a1c {elt:Expr} {gs:List Comprehension} {sc:Scope} (ha:JE X (.ListComp elt gs sc p) te) : JA X [.ListComp elt gs sc p] (zal te tNil):=⟨ziW ha.h zlq (Nst.star (.comp ..) _ _),.cons (.comp ..) .nil⟩
theorem JA.hd (h:JA X (e :: es) t) : Nst e:=by cases h.pl with | cons a _=>exact a
theorem JA.rs (h:JA X (e :: es) t) : Nsts es:=by cases h.pl with | cons _ a=>exact a
theorem e_fn (F:FnP X.prog X.w X.K X.mg X.base k x ps sp) (hr:Room j X.A) (ha:JA X (e :: es) t) (hj:k ≤ j:=by decide) (hg:Gl X x:=by rfl) (hdb:(x == ("__debug__" : Str)) = false:=by decide +kernel) : JE X (.Call (.Name x p) (e :: es) [] pos) (zcG sp [] E0 t) :=
 ⟨zot F hr ha.h hj hg hdb (ha.hd.star _ _) (ha.rs.no _ _)⟩
theorem e_cb {id:String} {r:List V → Hp → VK → Prop} (hc:JC X (.builtin id) r) (hm:X.mg x = none) (hv:bootBuiltins x = some (.builtin id)) (ha:JA X (e :: es) t) (hg:Gl X x:=by rfl) (hn:x ≠ "__name__" := by decide +kernel) (hdb:(x == ("__debug__" : Str)) = false:=by decide +kernel) :
  JE X (.Call (.Name x p) (e :: es) [] pos) (tCB r t):=⟨zkH hc.h hg hm hv ha.h hn hdb (ha.hd.star _ _) (ha.rs.no _ _)⟩
theorem e_ct {T:String} {r:List V → Hp → VK → Prop} (hc:JC X (.type T) r) (hm:X.mg x = none) (hv:bootBuiltins x = some (.type T)) (ha:JA X (e :: es) t) (hg:Gl X x:=by rfl) (hn:x ≠ "__name__" := by decide +kernel) (hdb:(x == ("__debug__" : Str)) = false:=by decide +kernel) :
  JE X (.Call (.Name x p) (e :: es) [] pos) (tCB r t):=⟨ziV hc.h hg hm hv ha.h hn hdb (ha.hd.star _ _) (ha.rs.no _ _)⟩
theorem e_ty {T:String} (hm:X.mg x = none) (hv:bootBuiltins x = some (.type T)) (hg:Gl X x:=by rfl) (hn:x ≠ "__name__" := by decide +kernel) (hd:(x == ("__debug__" : Str)) = false:=by decide +kernel) : JE X (.Name x pos) (tC (.ty T)):=⟨zlR hg hm hv rfl hn hd⟩
theorem zbs {x1} (h:JA X es t) : JE X (.Tuple es x1 pos) (tTup t):=⟨znp h.h⟩
theorem zbl (h:JA X es t) : JE X (.List es pos) (tLst t):=⟨znf h.h⟩
theorem zmm {pn:Str} {fp kp:Pos} (F:FnP X.prog X.w X.K X.mg X.base k x [pn] sp) (hr:Room j X.A) (hms:X.mg "sorted" = none) (he:JA X [e] t) (hj:k + 2 ≤ j:=by decide) (hgs:Gl X "sorted" := by rfl) (hg:Gl X x:=by rfl)
  (hd:(x == ("__debug__" : Str)) = false:=by decide +kernel) : JE X (.Call (.Name "sorted" p) [e] [⟨some "key", .Name x fp,kp⟩] pos) (ziK X.K sp t):=⟨zkK F hr hms he.h hj hgs hg hd (he.hd.star _ _)⟩
def JIn (X:Cx) (scope:Scope) (cl:List (Str × Addr)) (Nc:List Str) (target elt:Expr) (ifs:List Expr) (g:TG) (tt:TT) (te:TE) : Prop :=
 ∀ (pins:List (Addr × Obj)) (C:Addr) (s3:Shared) (H3:Hp) (fp:List Addr),JG (za9 X pins scope cl C Nc s3 H3 fp) target g ∧ ((ifs = [] ∧ tt = tYes) ∨ ∃ c,ifs = [c] ∧ JT (za9 X pins scope cl C Nc s3 H3 fp) c tt) ∧ JE (za9 X pins scope cl C Nc s3 H3 fp) elt te
variable {scope:Scope} {cl:List (Str × Addr)} {Nc:List Str} {js:List (Option Nat)} {target elt iter:Expr} {ifs:List Expr} {wi:TI} {g:TG} {tt:TT}
theorem JIn.inner (B:JIn X scope cl Nc target elt ifs g tt te) : Inner X scope cl Nc target elt ifs g tt te:=fun pins C s3 H3 fp=>by
 obtain ⟨h1,h2,h3⟩:=B pins C s3 H3 fp
 refine ⟨h1.h,?_,h3.h⟩
 rcases h2 with ⟨rfl,rfl⟩ | ⟨c,rfl,h2⟩
 ·exact zjn
 ·exact zju h2.h
theorem zaZ (S:CompScope X scope cl Nc js) (hi:JI X target iter wi) (B:JIn X scope cl Nc target elt ifs g tt te) (hc:X.calm = true:=by rfl) (hs:Pln iter:=by constructor) : JE X (.ListComp elt [⟨target,iter,ifs,0⟩] scope pos) (zg2 js wi g tt te) :=
 ⟨zmk hc S hi.h B.inner (hs.fold _)⟩
theorem zaW {op:CmpOp} {r:R2} (ho:JOp X (compareOp op) r) (ha:JE X a ta) (hb:JE X b tb) (h1:op ≠ .In:=by decide) (h2:op ≠ .NotIn:=by decide) : JT X (.Compare a [op] [b] pos) (zhc (tOp r ta tb)):=⟨ziI ho.h ha.h hb.h (zlc b h1 h2)⟩
theorem zi2 {j pos'} (ha:JE X a ta) : JT X (.Compare a [.Is] [.Constant .none j pos'] pos) (tB (tIsN ta)):=⟨zlk (zlg ha.h) (zc6 _ (by decide) (by decide))⟩
theorem zc8 {j pos'} (ha:JE X a ta) : JT X (.Compare a [.IsNot] [.Constant .none j pos'] pos) (tB (zmV ta)):=⟨zlk (zmh ha.h) (zc6 _ (by decide) (by decide))⟩
theorem zcz (h:JE X e te) (hp:Tru e:=by constructor) : JT X e (tB te):=⟨znc h.h (hp.tru _)⟩
def tTru (K:PySem.W.Frag) (te:TE) : TT:=fun σ H Q=>te σ H fun x H'=>∃ k,TruV K x H' k ∧ Q k H'
theorem zoA (h:JE X e te) (hp:Tru e:=by constructor) : JT X e (tTru X.K te):=⟨zkC h.h (hp.tru _)⟩
theorem zdA (ha:JT X a tA) : JT X (.UnaryOp .Not a pos) (tNot tA):=⟨znM ha.h⟩
theorem zdD (ha:JT X a tA) : JW X (.BoolOp .And [a] pos) tA:=⟨zmO ha.h⟩
theorem zfy (ha:JT X a tA) : JW X (.BoolOp .Or [a] pos) tA:=⟨znd ha.h⟩
theorem w_and (ha:JT X a tA) (hb:JW X (.BoolOp .And (b :: rest) pos) tB') : JW X (.BoolOp .And (a :: b :: rest) pos) (tAnd tA tB'):=⟨zm3 ha.h hb.h⟩
theorem w_or (ha:JT X a tA) (hb:JW X (.BoolOp .Or (b :: rest) pos) tB') : JW X (.BoolOp .Or (a :: b :: rest) pos) (tOr tA tB'):=⟨zoP ha.h hb.h⟩
theorem JW.jt (h:JW X e tA) : JT X e tA:=⟨PW.pt h.h⟩
theorem g_n (i:Nat) (hN:X.N.Nodup) (hi:X.N[i]? = some x:=by rfl) (hx:Loc X.env.scope x:=by first | exact Or.inl rfl | exact Or.inr rfl) (hf:X.fn x = true ∨ X.env.scope.names.lookup x = some .local:=by first | exact .inl rfl | exact .inr rfl) : JG X (.Name x pos) (zaw i):=⟨zmN hN hi hx hf⟩
theorem zbv {k n:Nat} {u:TGs} (h:JGs X es u) (hc:X.calm = true:=by rfl) (hn:(assignEach es X.env).length = n:=by rfl) (hst:(assignEach es X.env).findIdx? (·.1) = none:=by rfl) : JG X (.Tuple es k pos) (gTup X.K n u):=⟨zng hc h.h hn hst⟩
theorem zaR:JGs X [] gNil:=⟨zlN⟩
theorem zaf {u:TG} {us:TGs} (h1:JG X e u) (h2:JGs X es us) (hs:(assignEach (e :: es) X.env).map (·.2) = assign e X.env :: (assignEach es X.env).map (·.2):=by rfl) : JGs X (e :: es) (zbp u us):=⟨zkJ h1.h h2.h hs⟩
theorem zoF {ts:TSet} (ho:JE X a ta) (hi:JE X b tb) (hs:JSet X ts) (hp:Pln b:=by constructor) : JG X (.Subscript a b pos) (gSub ta tb ts):=⟨zne ho.h hi.h hs.h (by cases hp <;> exact fun _=>rfl)⟩
theorem zat (h:JE X e te) : JI X target e (zlV X.K te):=⟨zmP h.h⟩
theorem zoz (h:JE X e te) : JI X target e (iTup X.K te):=⟨znO h.h⟩
theorem zcY (hm:X.mg "range" = none) (ha:JA X [e] t) (hg:Gl X "range" := by rfl) : JI X target (.Call (.Name "range" p) [e] [] pos) (znt t):=⟨ziF hg hm ha.h (ha.hd.star _ _)⟩
variable {s1:Stmt} {ss body orelse:List Stmt} {u u':TS}
theorem zaS:JB X [] zkk:=⟨zmW⟩
theorem zag (h:JS X s1 u) : JB X [s1] u:=⟨zl4 h.h⟩
theorem zab (h:JS X s1 u) (h2:JB X ss u') : JB X (s1 :: ss) (tSeq u u'):=⟨zkl h.h h2.h⟩
theorem zar (i:Nat) {pos':Pos} (hN:X.N.Nodup) (he:JE X e te) (hp:Pln e:=by constructor) (hi:X.N[i]? = some x:=by rfl) (hx:Loc X.env.scope x:=by first | exact Or.inl rfl | exact Or.inr rfl)
  (hf:X.fn x = true ∨ X.env.scope.names.lookup x = some .local:=by first | exact .inl rfl | exact .inr rfl) : JS X (.Assign [.Name x pos'] e pos) (tAsg te (zaw i)):=⟨zli hN hi hx he.h (hp.swap _ _ _) hf⟩
theorem zl2 {tg:Expr} (he:JE X e te) (hg:JG X tg g) (hp:Pln e:=by constructor) (hw:swappedStores [tg] e X.env = pure none:=by rfl) (h1:(assignEach [tg] X.env).map (·.2) = [assign tg X.env]:=by rfl) : JS X (.Assign [tg] e pos) (tAsg te g) :=
 ⟨zm0 he.h hg.h (hp.swap _ _ _) hw h1⟩
theorem zlF (i:Nat) {pos' spos:Pos} (hN:X.N.Nodup) (S:CompScope X scope cl Nc js) (hi:JI X target iter wi) (B:JIn X scope cl Nc target elt ifs g tt te)
  (hsw:swapsWith (.ListComp elt [⟨target,iter,ifs,0⟩] scope pos) (some (.Name x pos')) spos.line X.env = pure true:=by rfl) (hix:X.N[i]? = some x:=by rfl) (hx:Loc X.env.scope x:=by first | exact Or.inl rfl | exact Or.inr rfl) (hc:X.calm = true:=by rfl) (hs:Pln iter:=by constructor)
  (hf:X.fn x = true ∨ X.env.scope.names.lookup x = some .local:=by first | exact .inl rfl | exact .inr rfl) :
  JS X (.Assign [.Name x pos'] (.ListComp elt [⟨target,iter,ifs,0⟩] scope pos) spos) (tAsg (zg2 js wi g tt te) (zaw i)):=⟨zim hN hix hx hc S hi.h B.inner (hs.fold _) hsw hf⟩
theorem s_if (hc:JT X c tA) (ha:JB X body u) (hb:JB X orelse u') : JS X (.If c body orelse pos) (tIfS tA u u'):=⟨zoU hc.h ha.h hb.h⟩
theorem zau (he:JE X e te) : JS X (.Return (some e) pos) (tRet te):=⟨zni he.h⟩
theorem zhC (he:JE X e te) (hp:Pln e:=by constructor) : JS X (.Expr e pos) (zeX te):=⟨zhi he.h (hp.swap _ _ _)⟩
theorem zdB {o:Expr} {to:TE} {apos cpos spos:Pos} (ho:JE X o to) (ha:JE X e te) (hp:Pln e:=by constructor) (hbase:attributeBase o "append" X.env (eval o X.env) = eval o X.env:=by rfl) (hline:(apos.endLine == cpos.line) = true:=by rfl) :
  JS X (.Expr (.Call (.Attribute o "append" apos) [e] [] cpos) spos) (zeX (tBM X.K "list" zbG to (zal te tNil))) :=
 ⟨znY ho.h (a1 ha hp).h hbase (by rw [hp.star]; rfl) hline (hp.star _ _) rfl (Pln.swap (.call ..) _ _ _)⟩
theorem zbd {tg:Expr} (hi:JI X tg iter wi) (hg:JG X tg g) (hb:JB X body u) (hp:PassesOwn (model X.prog X.w) X.A X.env X.xe:=by exact PassesOwn.never) (hc:X.calm = true:=by rfl) (hs:Pln iter:=by constructor) : JS X (.For tg iter body [] pos) (tFor wi g u):=⟨znn hp hc hi.h hg.h hb.h (hs.fold _)⟩
theorem zmi (hc:JT X c tA) (hb:JB X body u) (hp:PassesOwn (model X.prog X.w) X.A X.env X.xe:=by exact PassesOwn.never) : JS X (.While c body [] pos) (zls tA u):=⟨zkL hp hc.h hb.h⟩
end
section
variable {P:Program} {w:World} {K:PySem.W.Frag} {mg:Str → Option Value} {base:Heap}
theorem Fun.okJ {x qual:Str} {st:Stmt} {f:Addr} {fd:FuncData} {N ps:List Str} {k:Nat} {sp:Sp} (F:Fun K x qual st f fd) (S:FnScope N ps (zad st)) (len:∀ vs H Q E,sp vs H Q E → vs.length = ps.length)
  (hbody:∀ (cdv:Value) (A:Around) (outer:List Env) (s:Shared) (H:Hp) (vs:List V) (Q:VK) (E:XK),Room k (A.deeper (envOfC qual (zad st) s.heap.objs.size f cdv)) → sp vs H Q E →
   ∃ t,JB (cxOf CX0 P w K mg base N qual (zad st) f cdv A outer s H E).nox (zbe st) t ∧ t { nx:=fun _ H'=>Q .non H',rt:=Q } (start N vs) H) : FnOk P w K mg base CX0 (k + 1) f fd ps sp :=
 F.ok S len fun cdv A outer s H vs Q E hr h=>let ⟨t,h1,h2⟩:=hbody cdv A outer s H vs Q E hr h; ⟨t,h1.h,h2⟩
end
end L2
namespace L2
open PySem PySem.Spec PyProof.Rows
theorem pz {n:Int} (h:0 < n:=by decide) : 0 < n:=h
structure Blts (mg:Str → Option Value) : Prop where
 sorted:mg "sorted" = none
 max:mg "max" = none
 min:mg "min" = none
 any:mg "any" = none
 all:mg "all" = none
 sum:mg "sum" = none
 len:mg "len" = none
 range:mg "range" = none
 isinstance:mg "isinstance" = none
 list:mg "list" = none
 tuple:mg "tuple" = none
 int:mg "int" = none
 bool:mg "bool" = none
 str:mg "str" = none
 dict:mg "dict" = none
 set:mg "set" = none
 zip:mg "zip" = none
 enumerate:mg "enumerate" = none
 reversed:mg "reversed" = none
theorem FnOk.none {P:Program} {w:World} {K:PySem.W.Frag} {mg:Str → Option Value} {base:Heap} {CX:CXT} {k:Nat} {f:Addr} {fd:FuncData} {ps:List Str} {sp:Sp} (h:∀ vs H Q E,¬ sp vs H Q E) : FnOk P w K mg base CX k f fd ps sp :=
 ⟨fun vs H Q E q=>absurd q (h vs H Q E),fun _ _ _ H _ _ vs Q E _ _ _ _ q=>absurd q (h vs H Q E)⟩
theorem znB {xs:List Int} {i:Nat} {x:V} (h:(xs.map V.int)[i]? = some x) : ∃ c,x = V.int c:=by
 rw [List.getElem?_map] at h
 cases e:xs[i]? with
 | none=>rw [e] at h; cases h
 | some z=>rw [e] at h; exact ⟨z,(Option.some.inj h).symm⟩
def RowAt (H:Hp) (v:V) (ns:List Int) : Prop:=∃ t,v = .ref t ∧ H t = some (.tup (ns.map V.int))
theorem RowAt.same {H H':Hp} {v:V} {ns:List Int} (e:Same H H') (h:RowAt H v ns) : RowAt H' v ns:=by obtain ⟨t,h1,h2⟩:=h; exact ⟨t,h1,e _ _ h2⟩
theorem cutN (xs:List V) (m:Nat) : cutV xs none (some (m:Int)) = xs.take m:=by
 unfold cutV
 have e1:HT.sIx xs.length 0 none = 0:=rfl
 have e2:HT.sIx xs.length xs.length (some (m:Int)) = min m xs.length:=HT.sIx_nat ..
 rw [e1,e2,List.drop_zero,Nat.sub_zero]
 by_cases h:m ≤ xs.length
 ·rw [Nat.min_eq_left h]
 ·rw [Nat.min_eq_right (by omega),List.take_of_length_le (Nat.le_refl _),List.take_of_length_le (by omega)]
theorem zkW (ns:List Int) (m:Nat) : cutV (ns.map V.int) none (some (m:Int)) = (ns.take m).map V.int:=by rw [cutN,List.map_take]
inductive Cond where
 | same (i j:Nat) | isv (i:Nat) (v:Int) | less (i j:Nat) | undr (i:Nat) (v:Int)
 | both (a b:Cond) | either (a b:Cond) | neg (a:Cond)
namespace Cond
end Cond
theorem zhT {X:Cx} : JOp X (binaryOp .Add) rCat:=⟨zm5⟩
theorem zd9 {X:Cx} : JC X (.type "tuple") (fun xs H Q=>∃ p ys,xs = [.ref p] ∧ ((SqL X.K H p ys ∧ ∀ l,H l = none → Q (.ref l) (upd H l (.tup ys))) ∨ (SqT X.K H p ys ∧ Q (.ref p) H))):=⟨zfG⟩
end L2
namespace L2
open PySem PySem.Spec PyProof.Rows
section
variable {κ:Type} [DecidableEq κ]
def valV (kvs:List (κ × V)) (k:κ) : Option V:=(kvs.find? fun kv=>decide (kv.1 = k)).map (·.2)
def putK (kvs:List (κ × V)) (k:κ) (v:V) : List (κ × V) :=
 if (kvs.any fun kv=>decide (kv.1 = k)) = true then kvs.map (fun kv=>if kv.1 = k then (kv.1,v) else kv) else kvs ++ [(k,v)]
theorem zb7 {p:κ × V} {r:List (κ × V)} {k:κ} (e:p.1 = k) : valV (p :: r) k = some p.2:=by simp [valV,List.find?_cons,e]
theorem zbB {p:κ × V} {r:List (κ × V)} {k:κ} (e : ¬ p.1 = k) : valV (p :: r) k = valV r k:=by simp [valV,List.find?_cons,e]
theorem zdS (k:κ) : ∀ kvs:List (κ × V),(kvs.any fun kv=>decide (kv.1 = k)) = (valV kvs k).isSome
 | []=>rfl
 | p :: r=>by
  rw [List.any_cons]
  by_cases e:p.1 = k
  ·simp only [zb7 e,decide_eq_true e,Bool.true_or,Option.isSome_some]
  ·rw [zbB e,decide_eq_false e,Bool.false_or]; exact zdS k r
theorem zcH (kvs:List (κ × V)) (k:κ) (v:V) : (putK kvs k v).length ≤ kvs.length + 1:=by
 unfold putK
 split
 ·rw [List.length_map]; omega
 ·rw [List.length_append,List.length_cons,List.length_nil]; omega
theorem zhu {kvs:List (κ × V)} {k:κ} (v:V) (h:valV kvs k = none) : putK kvs k v = kvs ++ [(k,v)]:=by
 unfold putK
 rw [zdS,h]
 exact if_neg (by decide)
theorem RelO.isSome_eq {o:Option V} {u:Option Value} (r:RelO o u) : o.isSome = u.isSome:=by
 cases o with
 | none=>cases u with
  | none=>rfl
  | some _=>exact (show False from r).elim
 | some _=>cases u with
  | none=>exact (show False from r).elim
  | some _=>rfl
theorem RelO.getD {o:Option V} {u:Option Value} {d:V} {d':Value} (r:RelO o u) (rd:RelV d d') : RelV (o.getD d) (u.getD d'):=by
 cases o with
 | none=>cases u with
  | none=>exact rd
  | some _=>exact (show False from r).elim
 | some _=>cases u with
  | none=>exact (show False from r).elim
  | some _=>exact r
theorem KV.val {kvs:List (κ × V)} {vs:List (κ × Value)} (r:KV kvs vs) (k:κ) : RelO (valV kvs k) (valueAt vs k):=by
 unfold KV at r
 induction r with
 | nil=>exact True.intro
 | @cons p q ps qs h t ih =>
  obtain ⟨h1,h2⟩:=h
  by_cases e:p.1 = k
  ·have e':q.1 = k:=h1.symm.trans e
   have b:valueAt (q :: qs) k = some q.2:=by simp [valueAt,List.find?_cons,e']
   rw [zb7 e,b]; exact h2
  ·have e' : ¬ q.1 = k:=fun z=>e (h1.trans z)
   have b:valueAt (q :: qs) k = valueAt qs k:=by simp [valueAt,List.find?_cons,e']
   rw [zbB e,b]; exact ih
theorem KV.any {kvs:List (κ × V)} {vs:List (κ × Value)} (r:KV kvs vs) (k:κ) : (kvs.any fun kv=>decide (kv.1 = k)) = vs.any fun kv=>decide (kv.1 = k):=by
 unfold KV at r
 induction r with
 | nil=>rfl
 | cons h t ih=>rw [List.any_cons,List.any_cons,ih,h.1]
theorem KV.repl {kvs:List (κ × V)} {vs:List (κ × Value)} (r:KV kvs vs) (k:κ) {y:V} {u:Value} (ry:RelV y u) :
  KV (kvs.map fun kv=>if kv.1 = k then (kv.1,y) else kv) (vs.map fun kv=>if kv.1 = k then (kv.1,u) else kv):=by
 unfold KV at r ⊢
 induction r with
 | nil=>exact .nil
 | @cons p q ps qs h t ih =>
  rw [List.map_cons,List.map_cons]
  refine .cons ?_ ih
  obtain ⟨h1,h2⟩:=h
  by_cases e:p.1 = k
  ·rw [if_pos e,if_pos (h1.symm.trans e)]; exact ⟨h1,ry⟩
  ·rw [if_neg e,if_neg (fun z=>e (h1.trans z))]; exact ⟨h1,h2⟩
theorem KV.put {kvs:List (κ × V)} {vs:List (κ × Value)} (r:KV kvs vs) (k:κ) {y:V} {u:Value} (ry:RelV y u) : KV (putK kvs k y) (stored vs k u):=by
 unfold putK stored
 rw [r.any k]
 by_cases e:(vs.any fun kv=>decide (kv.1 = k)) = true
 ·rw [if_pos e,if_pos e]; exact r.repl k ry
 ·rw [if_neg e,if_neg e]; exact Paired.snoc r ⟨rfl,ry⟩
theorem KV.keys {kvs:List (κ × V)} {vs:List (κ × Value)} (r:KV kvs vs) : kvs.map (·.1) = vs.map (·.1):=by
 unfold KV at r
 induction r with
 | nil=>rfl
 | cons h t ih=>rw [List.map_cons,List.map_cons,ih,h.1]
theorem KV.length {kvs:List (κ × V)} {vs:List (κ × Value)} (r:KV kvs vs) : kvs.length = vs.length:=Paired.length r
end
theorem zme {P:Program} {w:World} {k:Key} {u:Value} (r:RelV (kV k) u) : (za3 P w).is k u = true:=by
 cases k with
 | inl i=>obtain ⟨t,e⟩:=(show ∃ t,u = Value.int i t from r); subst e; exact zgQ P w i t
 | inr x=>obtain ⟨t,e⟩:=(show ∃ t,u = Value.str x t from r); subst e; exact zg1 P w x t
theorem zgt {P:Program} {w:World} : ∀ {ks:List Key} {us:List Value},Vals (ks.map kV) us → ItemsAre (za3 P w) ks us
 | [],_,r=>by rw [List.map_nil] at r; cases r; exact .nil
 | k :: ks,_,r=>by
  rw [List.map_cons] at r
  cases r with
  | cons h t=>exact .cons (zme h) (zgt t)
abbrev KT (H:Hp) : List (List Key × V) → List (List Key × Addr × Value) → Prop:=Paired fun p q=>p.1 = q.1 ∧ H q.2.1 = some (.tup (p.1.map kV)) ∧ RelV p.2 q.2.2
theorem KT.val {H:Hp} {kvs:List (List Key × V)} {xs:List (List Key × Addr × Value)} (r:KT H kvs xs) (k:List Key) : RelO (valV kvs k) ((atKey xs k).map (·.2)):=by
 induction r with
 | nil=>exact True.intro
 | @cons p q ps qs h t ih =>
  obtain ⟨h1,_,h2⟩:=h
  by_cases e:p.1 = k
  ·have e':q.1 = k:=h1.symm.trans e
   have b:atKey (q :: qs) k = some q.2:=by simp [atKey,List.find?_cons,e']
   rw [zb7 e,b]; exact h2
  ·have e' : ¬ q.1 = k:=fun z=>e (h1.trans z)
   have b:atKey (q :: qs) k = atKey qs k:=by simp [atKey,List.find?_cons,e']
   rw [zbB e,b]; exact ih
theorem KT.repl {H:Hp} {kvs:List (List Key × V)} {xs:List (List Key × Addr × Value)} (r:KT H kvs xs) (k:List Key) {y:V} {u:Value} (ry:RelV y u) :
  KT H (kvs.map fun kv=>if kv.1 = k then (kv.1,y) else kv) (xs.map (putAt k u)):=by
 induction r with
 | nil=>exact .nil
 | @cons p q ps qs h t ih =>
  rw [List.map_cons,List.map_cons]
  refine .cons ?_ ih
  obtain ⟨h1,h2,h3⟩:=h
  unfold putAt
  by_cases e:p.1 = k
  ·rw [if_pos e,if_pos (h1.symm.trans e)]; exact ⟨h1,h2,ry⟩
  ·rw [if_neg e,if_neg (fun z=>e (h1.trans z))]; exact ⟨h1,h2,h3⟩
theorem KT.put {H:Hp} {kvs:List (List Key × V)} {xs:List (List Key × Addr × Value)} (r:KT H kvs xs) (k:List Key) {b:Addr} {y:V} {u:Value} (hb:H b = some (.tup (k.map kV))) (ry:RelV y u) :
  KT H (putK kvs k y) (storedH xs k b u):=by
 have e:(kvs.any fun kv=>decide (kv.1 = k)) = (atKey xs k).isSome:=by
  rw [zdS,(r.val k).isSome_eq,Option.isSome_map]
 unfold putK storedH
 rw [e]
 by_cases q:(atKey xs k).isSome = true
 ·rw [if_pos q,if_pos q]; exact r.repl k ry
 ·rw [if_neg q,if_neg q]; exact Paired.snoc r ⟨rfl,hb,ry⟩
theorem KT.keeps {H H':Hp} {kvs:List (List Key × V)} {xs:List (List Key × Addr × Value)} (r:KT H kvs xs) (ht:∀ b ys,H b = some (.tup ys) → H' b = some (.tup ys)) : KT H' kvs xs :=
 Paired.mapP r fun _ _ z=>⟨z.1,ht _ _ z.2.1,z.2.2⟩
section
variable {P:Program} {w:World} {H:Hp} {h:Heap} {a:Addr}
theorem zn8 {u:HO} (ok:HOk P w H h) (e:Rd H a u) : ObjOk P w H h a u:=e.ok ok
theorem zmp {kvs:List (Key × V)} (ok:HOk P w H h) (e:Rd H a (.dK kvs)) : kvs.length ≤ sizeLine ∧ (a == sysModules) = false ∧ ∃ vs,KV kvs vs ∧ h.DictOf (za3 P w) a vs :=
 show ObjOk P w H h a (.dK kvs) from zn8 ok e
theorem zoB {kvs:List (Key × V)} (ok:HOk P w H h) (e:H a = some (.dK kvs)) : kvs.length ≤ sizeLine ∧ (a == sysModules) = false ∧ ∃ vs,KV kvs vs ∧ h.DictOf (za3 P w) a vs:=zmp ok (.inl e)
theorem zhn {ks:List Key} (ok:HOk P w H h) (e:H a = some (.tup (ks.map kV))) : (tupleKind (za3 P w)).is h ks a:=by
 obtain ⟨_,its,r,o,h1,h2,n,h3⟩:=(show ObjOk P w H h a (.tup (ks.map kV)) from ok a _ e)
 exact ⟨o,its.toArray,n,h1,h2,h3,by simpa using zgt r⟩
theorem zkV {kvs:List (List Key × V)} (ok:HOk P w H h) (e:Rd H a (.dT kvs)) : kvs.length ≤ sizeLine ∧ (a == sysModules) = false ∧
  ∃ xs,KT H kvs xs ∧ h.DictOfH (tupleKind (za3 P w)) a xs:=by
 obtain ⟨z,y,xs,r,o,es,ep,h1,h2,h3,h4,h5⟩:=(show ObjOk P w H h a (.dT kvs) from zn8 ok e)
 refine ⟨z,y,xs,r,o,es,ep,h1,h2,h3,h4,fun x hx=>?_,h5⟩
 have all:∀ {l:List (List Key × V)} {m:List (List Key × Addr × Value)},KT H l m → ∀ x ∈ m,(tupleKind (za3 P w)).is h x.1 x.2.1:=by
  intro l m q
  induction q with
  | nil=>intro x hx; exact nomatch hx
  | @cons p q ps qs hq t ih =>
   intro x hx
   rcases List.mem_cons.mp hx with e | hx
   ·subst e
    exact zhn ok (by rw [← hq.1]; exact hq.2.1)
   ·exact ih x hx
 exact all r x hx
theorem znb {kvs:List (List Key × V)} (ok:HOk P w H h) (e:H a = some (.dT kvs)) : kvs.length ≤ sizeLine ∧ (a == sysModules) = false ∧
  ∃ xs,KT H kvs xs ∧ h.DictOfH (tupleKind (za3 P w)) a xs:=zkV ok (.inl e)
end
def DGet (H:Hp) (a:Addr) (y:V) (r:Option V) : Prop :=
 (∃ kvs k,Rd H a (.dK kvs) ∧ y = kV k ∧ r = valV kvs k) ∨ ∃ kvs k b,Rd H a (.dT kvs) ∧ y = .ref b ∧ H b = some (.tup (k.map kV)) ∧ r = valV kvs k
def DPut (H:Hp) (a:Addr) (y v:V) (H':Hp) : Prop :=
 (∃ kvs k,H a = some (.dK kvs) ∧ y = kV k ∧ kvs.length < sizeLine ∧ H' = upd H a (.dK (putK kvs k v))) ∨
 ∃ kvs k b,H a = some (.dT kvs) ∧ y = .ref b ∧ H b = some (.tup (k.map kV)) ∧ kvs.length < sizeLine ∧ H' = upd H a (.dT (putK kvs k v))
theorem DGet.k {H:Hp} {a:Addr} {kvs:List (Key × V)} {k:Key} (e:H a = some (.dK kvs)) : DGet H a (kV k) (valV kvs k):=.inl ⟨kvs,k,.inl e,rfl,rfl⟩
theorem DGet.t {H:Hp} {a b:Addr} {kvs:List (List Key × V)} {k:List Key} (e:H a = some (.dT kvs)) (eb:H b = some (.tup (k.map kV))) : DGet H a (.ref b) (valV kvs k):=.inr ⟨kvs,k,b,.inl e,rfl,eb,rfl⟩
theorem DPut.k {H:Hp} {a:Addr} {kvs:List (Key × V)} {k:Key} {v:V} (e:H a = some (.dK kvs)) (hl:kvs.length < sizeLine) : DPut H a (kV k) v (upd H a (.dK (putK kvs k v))):=.inl ⟨kvs,k,e,rfl,hl,rfl⟩
theorem DPut.t {H:Hp} {a b:Addr} {kvs:List (List Key × V)} {k:List Key} {v:V} (e:H a = some (.dT kvs)) (eb:H b = some (.tup (k.map kV))) (hl:kvs.length < sizeLine) :
  DPut H a (.ref b) v (upd H a (.dT (putK kvs k v))):=.inr ⟨kvs,k,b,e,rfl,eb,hl,rfl⟩
section
variable {X:Cx} {pins:List (Addr × Obj)} {σ:St} {H:Hp} {s:Shared} {a:Addr} {y v:V} {u r:Value} {o:Option V} {A:Around} {E:Value → Shared → Prop}
theorem Inv.big (I:Inv X pins σ H s) : sysModules < s.heap.objs.size:=by
 have h:mainGlobals < s.heap.objs.size:=(I.mod.glob.keeps I.bk).lt
 exact Nat.lt_trans (by decide) h
theorem ziS {Q:Value → Shared → Prop} (hu:A.units + 1 < cLine) (I:Inv X pins σ H s) (g:DGet H a y (some v)) (ry:RelV y u) (h:∀ w' s',Inv X pins σ H s' → RelV v w' → Q w' s') :
  wpAny (model X.prog X.w) A (getItem (.ref a) u) Q E s:=by
 rcases g with ⟨kvs,k,e,ey,l⟩ | ⟨kvs,k,b,e,ey,eb,l⟩
 ·subst ey
  obtain ⟨z,hd,vs,rel,dd⟩:=zmp I.hok e
  obtain ⟨w',hw,rw'⟩:=RelO.some_of (v:=v) (o:=valueAt vs k) (by rw [l]; exact rel.val k)
  exact wpAny_getItem_of (zme ry) dd.mapOf hw (h w' _ (I.tok _) rw')
 ·subst ey
  cases (show u = Value.ref b from ry)
  obtain ⟨z,hd,xs,rel,dd⟩:=zkV I.hok e
  obtain ⟨w',hw,rw'⟩:=RelO.some_of (v:=v) (o:=(atKey xs k).map (·.2)) (by rw [l]; exact rel.val k)
  obtain ⟨p,hp,hp2⟩:=Option.map_eq_some_iff.mp hw
  refine wpAny_getItem_heap (tupleKind_room_in1 hu) (zhn I.hok eb) dd hp ?_
  rw [hp2]
  exact h w' _ (I.tok _) rw'
theorem zfM {h':Heap} {t':Nat} {ob:HO} (I:Inv X pins σ H s) (mu:Mut (H a)) (hs:Heap.SameBut a s.heap h') (he:∃ q,h'.get? a = some q) (new:ObjOk X.prog X.w (upd H a ob) h' a ob) :
  Inv X pins σ (upd H a ob) { s with heap:=h',toks:=t' } :=
 I.write (x:=a) (e:=a) mu (.inl rfl) (fun b q hb z=>(hs.2 b hb).trans z) he new
theorem znX {P:Program} {w:World} {H':Hp} {h':Heap} {kvs:List (Key × V)} {vs:List (Key × Value)} (z:kvs.length ≤ sizeLine) (hd:(a == sysModules) = false) (rel:KV kvs vs) (dd:h'.DictOf (za3 P w) a vs) :
  ObjOk P w H' h' a (.dK kvs):=⟨z,hd,vs,rel,dd⟩
theorem zjp {H':Hp} {Q:Unit → Shared → Prop} (hu:A.units + 1 < cLine) (I:Inv X pins σ H s) (g:DPut H a y v H') (ry:RelV y u) (rv:RelV v r) (h:∀ s',Inv X pins σ H' s' → Q () s') :
  wpAny (model X.prog X.w) A (setItem (.ref a) u r) Q E s:=by
 rcases g with ⟨kvs,k,e,ey,l,eH⟩ | ⟨kvs,k,b,e,ey,eb,l,eH⟩
 ·subst ey eH
  obtain ⟨z,hd,vs,rel,dd⟩:=zoB I.hok e
  have hz:vs.length ≤ sizeLine:=by rw [← rel.length]; exact z
  have hl:(putK kvs k v).length ≤ sizeLine:=by have:=zcH kvs k v; omega
  refine wpAny_setItem_pairs (hsz:=hz) (zme ry) dd fun h' dd' hs=>h _ ?_
  have he:∃ q,h'.get? a = some q:=let ⟨q,_,_,hq,_⟩:=dd'; ⟨q,hq⟩
  exact zfM I (by rw [e]; exact True.intro) hs he (znX hl hd (rel.put k rv) dd')
 ·subst ey eH
  cases (show u = Value.ref b from ry)
  obtain ⟨z,hd,xs,rel,dd⟩:=znb I.hok e
  have hz:xs.length ≤ sizeLine:=by rw [← Paired.length rel]; exact z
  have hl:(putK kvs k v).length ≤ sizeLine:=by have:=zcH kvs k v; omega
  refine wpAny_setItem_heap (hsz:=hz) (tupleKind_room_in1 hu) (zhn I.hok eb) dd fun h' dd' hs=>h _ ?_
  obtain ⟨q,es,ep,hq,h2,h3,h4,_,h5⟩:=dd'
  refine zfM I (by rw [e]; exact True.intro) hs ⟨q,hq⟩ ⟨hl,hd,_,(rel.put k eb rv).keeps fun c ys ec=>?_,q,es,ep,hq,h2,h3,h4,h5⟩
  rw [zai (zbt ec e (fun z=>nomatch z))]
  exact ec
end
section
variable {X:Cx} {pins:List (Addr × Obj)} {σ:St} {H:Hp} {s:Shared} {a:Addr} {kvs:List (Key × V)} {k:Key} {u:Value} {A:Around} {E:Value → Shared → Prop}
end
def NoSl (i:Expr) : Prop:=∀ ov iv,subscripted i false ov iv = operate [ov,iv] (getItem ov iv)
theorem zjL {prog:Program} {w:World} {A:Around} {E:Value → Shared → Prop} {s:Shared} {env:Env} {value slice:Expr} {pos:Pos} {T id:String} {Q:Value → Shared → Prop}
  (hl:typeLookup (.type T) "__getitem__" = pure (some (.builtin id))) (hs:NoSl slice)
  (h:wpAny (model prog w) A (eval value env) (fun o s₁=>wpAny (model prog w) A (eval slice env) (fun i s₂=>s₂.TypeIs o T ∧ wpAny (model prog w) A (getItem o i) Q E s₂) E s₁) E s) :
  wpAny (model prog w) A (eval (.Subscript value slice pos) env) Q E s:=by
 refine Subscript_ (wpAny_mono h (fun o s₁ h₁=>wpAny_mono h₁ (fun i s₂ h₂=>?_) fun _ _ x=>x) fun _ _ x=>x)
 obtain ⟨hT,h₂⟩:=h₂
 unfold subscriptTail
 refine wpAny_bind ?_
 rw [getitemInPython_of_ne hT.not_modules]
 refine wpAny_bind (wpAny_specialOf hT hl ?_)
 have fin:wpAny (model prog w) A (subscripted slice false o i) (fun r s₃=>wpAny (model prog w) A (letTemporaryGo value o r >>= fun _=>pure r) Q E s₃) E s₂:=by
  rw [hs o i]
  exact wpAny_operating (wpAny_mono h₂ (fun r s₃ h₃=>wpAny_bind (wpAny_letTemporaryGo (wpAny_pure h₃))) fun _ _ x=>x)
 first
  | exact wpAny_pure (wpAny_bind fin)
  | exact wpAny_bind (wpAny_pure (wpAny_bind fin))
  | exact wpAny_bind fin
theorem zgN {X:Cx} {pins:List (Addr × Obj)} {σ:St} {H:Hp} {s:Shared} {a:Addr} {y:V} {o:Option V} (I:Inv X pins σ H s) (g:DGet H a y o) : s.TypeIs (.ref a) "dict" := by
 rcases g with ⟨kvs,k,e,_,_⟩ | ⟨kvs,k,b,e,_,_,_⟩
 ·obtain ⟨_,_,vs,_,dd⟩:=zmp I.hok e
  exact dd.typeIs
 ·obtain ⟨_,_,xs,_,dd⟩:=zkV I.hok e
  exact dd.typeIs
def zmf (td ty:TE) : TE:=fun σ H Q=>td σ H fun x H1=>ty σ H1 fun y H2=>∃ a v,x = .ref a ∧ DGet H2 a y (some v) ∧ Q v H2
def znK (td ty tv:TE) : TS:=fun D σ H=>tv σ H fun v H1=>td σ H1 fun x H2=>ty σ H2 fun y H3=>∃ a H4,x = .ref a ∧ DPut H3 a y v H4 ∧ D.nx σ H4
section
variable {X:Cx} {o i e value:Expr} {pos pos' tpos:Pos} {td ty tv:TE}
theorem zmu (hu:X.A.units + 1 < cLine) (ho:PE X o td) (hi:PE X i ty) (hs:NoSl i) : PE X (.Subscript o i pos) (zmf td ty):=by
 intro pins s σ H Q I h
 refine zjL PySem.F.slot_dict_getitem.lookup hs (thn (ho pins s σ H _ I h) fun u s1 ⟨x,H1,I1,rx,q1⟩=>thn (hi pins s1 σ H1 _ I1 q1) fun iv s2 ⟨y,H2,I2,ry,a,v,ex,g,q2⟩=>?_)
 subst ex
 obtain rfl:u = Value.ref a:=rx
 exact ⟨zgN I2 g,ziS hu I2 g ry fun w' s3 I3 rw'=>⟨v,H2,I3,rw',q2⟩⟩
theorem zlM (hu:X.A.units + 1 < cLine) (ho:PE X o td) (hi:PE X i ty) (hv:PE X value tv) (hs:swapsWith value (some (.Subscript o i pos')) pos.line X.env = pure false) :
  PS X (.Assign [.Subscript o i pos'] value pos) (znK td ty tv):=by
 intro pins s σ H D I h
 refine wpAny_Assign_Subscript (thn (hv pins s σ H _ I h) fun r s1 ⟨v,H1,I1,rv,q1⟩=>thn (ho pins s1 σ H1 _ I1 q1) fun u s2 ⟨x,H2,I2,rx,q2⟩=>thn (hi pins s2 σ H2 _ I2 q2) fun iv s3 ⟨y,H3,I3,ry,a,H4,ex,g,q3⟩=>?_) hs
 subst ex
 obtain rfl:u = Value.ref a:=rx
 exact zjp hu I3 g ry rv fun s4 I4=>⟨σ,H4,I4,q3⟩
end
theorem zkE {P:Program} {w:World} {H:Hp} (h:Heap) (hb:sysModules < h.objs.size) : ObjOk P w H (h.push { cls:=.type "dict", data:=.dict #[] }) h.objs.size (.dK []) :=
 ⟨Nat.zero_le _,beq_eq_false_iff_ne.mpr (Ne.symm (Nat.ne_of_lt hb)),[],.nil,Heap.DictOf.new h⟩
theorem zj8 {P:Program} {w:World} {H:Hp} (h:Heap) (hb:sysModules < h.objs.size) : ObjOk P w H (h.push { cls:=.type "dict", data:=.dict #[] }) h.objs.size (.dT []) :=
 ⟨Nat.zero_le _,beq_eq_false_iff_ne.mpr (Ne.symm (Nat.ne_of_lt hb)),[],.nil,_,#[],0,Heap.get?_push_size _ rfl,⟨rfl,rfl,rfl⟩,rfl,rfl,List.nodup_nil⟩
def zle:TE:=fun _ H Q=>∀ p,H p = none → Q (.ref p) (upd H p (.dK []))
def zlD:TE:=fun _ H Q=>∀ p,H p = none → Q (.ref p) (upd H p (.dT []))
section
variable {X:Cx} {pos:Pos}
theorem zkA:PE X (.Dict [] [] pos) zle:=fun pins s σ H Q I h =>
 wpAny_Dict_empty ⟨.ref s.heap.objs.size,_,I.laid (a:=s.heap.objs.size) (o:=.dK []) (t':=s.toks) (fun _ _ q=>Heap.get?_push_of_some _ q) (Nat.le_refl _) (zkE s.heap I.big),rfl,h _ (I.hok.fresh (Nat.le_refl _))⟩
theorem zj5:PE X (.Dict [] [] pos) zlD:=fun pins s σ H Q I h =>
 wpAny_Dict_empty ⟨.ref s.heap.objs.size,_,I.laid (a:=s.heap.objs.size) (o:=.dT []) (t':=s.toks) (fun _ _ q=>Heap.get?_push_of_some _ q) (Nat.le_refl _) (zj8 s.heap I.big),rfl,h _ (I.hok.fresh (Nat.le_refl _))⟩
end
structure M2 (X:Cx) (o:Expr) (m:Str) (apos:Pos) (e f:Expr) (cpos:Pos) : Prop where
 base:attributeBase o m X.env (eval o X.env) = eval o X.env
 few:((backTo cpos (starEach [e,f] X.env)).all (fun x=>!x.1) && (backToKw cpos (keywordEach [] X.env)).all (fun x=>x.1.isSome)
  && decide (([e,f] : List Expr).length + ([] : List Keyword).length + (if ([] : List Keyword).isEmpty then 0 else 1) < 30)) = true
 line:(apos.endLine == cpos.line) = true
 trees:backTo cpos (starEach [e,f] X.env) = [(false,eval e X.env),(false,eval f X.env)]
section
variable {X:Cx} {pins:List (Addr × Obj)} {σ:St} {H:Hp} {s:Shared} {a:Addr} {y d:V} {u r:Value} {o:Option V} {A:Around} {E:Value → Shared → Prop}
end
section
variable {X:Cx} {o e f:Expr} {apos cpos:Pos} {td ty tx:TE}
end
section
variable {X:Cx} {pins:List (Addr × Obj)} {σ:St} {H:Hp} {s:Shared} {a:Addr} {kvs:List (Key × V)} {A:Around} {E:Value → Shared → Prop}
end
section
variable {X:Cx} {pins:List (Addr × Obj)} {σ:St} {H:Hp} {s:Shared} {a:Addr} {y:V} {u:Value} {A:Around} {E:Value → Shared → Prop}
end
end L2
namespace L2
open PySem PySem.Spec PyProof.Rows
section
variable {κ:Type} [DecidableEq κ]
end
end L2
namespace Wr
open PySem SetTable
def it (m:Nat) : Nat → Nat → Nat
 | 0,i=>i
 | s + 1,i=>it m s ((i * 5 + 1) % m)
end Wr
namespace Wr
open PySem SetTable
def Rise (l:List Nat) : Prop:=l.Pairwise (· < ·)
def cnt (l:List Nat) (j:Nat) : Nat:=(l.filter fun x=>decide (x < j)).length
end Wr
namespace Wr
open PySem SetTable
def zoZ:List Nat:=[8,16,32,64,128,256,512]
end Wr
namespace Wr
open PySem SetTable
def zoV (e:Int × Value) (n:Int) : Prop:=e.1 = hashInt n ∧ ∃ t,e.2 = .int n t
abbrev byTx (w:World) : Bool:=w.params.followText "set-order"
section
variable {prog:Program} {w:World} {A:Around} {E:Value → Shared → Prop} {s:Shared}
end
end Wr
namespace Wr
open PySem SetTable
section
variable {prog:Program} {w:World} {A:Around} {E:Value → Shared → Prop} {s:Shared}
end
end Wr
namespace Wr
open PySem SetTable
section
variable {prog:Program} {w:World} {A:Around} {E:Value → Shared → Prop} {s:Shared}
end
end Wr
namespace Wr
open PySem SetTable
def zoY (h:Heap) (it a:Addr) (slot i n ep:Nat) : Prop:=∃ o,h.get? it = some o ∧ o.cls = .type "set_iterator" ∧ o.data = .fields #[rawInt slot,rawInt i,.ref a,rawInt n,rawInt ep]
section
variable {prog:Program} {w:World} {A:Around} {E:Value → Shared → Prop} {s:Shared}
end
end Wr
namespace Wr
open PySem SetTable PyProof.Rows
section
variable {prog:Program} {w:World} {A:Around} {E:Value → Shared → Prop} {s:Shared}
end
end Wr
namespace Wr
open PySem SetTable PyProof.Rows
section
variable {prog:Program} {w:World} {A:Around} {E:Value → Shared → Prop} {s:Shared}
theorem collect_byD {c d:Addr} {T:String} {n:Nat} {P:Nat → Value → Prop} {St:Addr → Nat → Heap → Prop} {Q:List Value → Shared → Prop} (hc:c < s.heap.objs.size) (hd:d < s.heap.objs.size)
  (hT:∀ h':Heap,(∀ b o,s.heap.get? b = some o → h'.get? b = some o) → ({ s with heap:=h' } : Shared).TypeIs (.ref c) T) (h1:(Value.type T == Value.type "list") = false) (h2:(Value.type T == Value.type "tuple") = false)
  (hit:∀ (h':Heap) (Q':Value → Shared → Prop),(∀ b o,s.heap.get? b = some o → h'.get? b = some o) → s.heap.objs.size ≤ h'.objs.size →
   (∀ it h'',h'.objs.size ≤ it → (∀ b o,h'.get? b = some o → h''.get? b = some o) → St it 0 h'' → Q' (.ref it) { s with heap:=h'' }) → wpAny (model prog w) A.in1 (pyIter (.ref c)) Q' E { s with heap:=h' })
  (hint:∀ (h':Heap) (Q':Bool → Shared → Prop),(∀ b o,s.heap.get? b = some o → h'.get? b = some o) → Q' false { s with heap:=h' } → wpAny (model prog w) A.in1 (Builtin.List.listLengthHint (.ref c)) Q' E { s with heap:=h' })
  (W:∀ it,d ≠ it → Walks prog w A.in1 it [it,d] [it] n P (St it)) (hn:n ≤ sizeLine)
  (hQ:∀ h' tk acc,(∀ b o,s.heap.get? b = some o → h'.get? b = some o) → s.heap.objs.size < h'.objs.size → s.toks ≤ tk → ItemsOf P acc n → Q acc.toList { s with heap:=h',toks:=tk }) : wpAny (model prog w) A (collect (.ref c)) Q E s:=by
 unfold collect
 refine wpAny_bind (wpAny_runValue (codeAny_builtin F.entry_proto_collect ?_)); rw [Around.under_plainId F.plain_proto_collect _]
 show wpAny _ A.in1 (newList [] >>= fun l=>again (.builtin "list.__iadd__" ⟨[l,.ref c],[]⟩)) _ _ s
 refine wpAny_bind (wpAny_newObj_type ?_ (by size_fits))
 refine wpAny_pure ⟨plainId_quiet F.plain_list_iadd _,codeAny_builtin F.entry_list_iadd ?_⟩; rw [Around.under_plainId F.plain_list_iadd _]
 show wpAny _ A.in1 (Builtin.List.listExtendWith (.ref s.heap.objs.size) (.ref c) (.ref s.heap.objs.size)) _ _ _
 unfold Builtin.List.listExtendWith
 have k0:∀ b o,s.heap.get? b = some o → (s.heap.push (seqObj "list" #[] 0)).get? b = some o:=fun b o e=>Heap.get?_push_of_some _ e
 refine wpAny_bind (wpAny_typeOf (hT _ k0) ?_)
 have hS:Builtin.List.listSameRef (.ref s.heap.objs.size) (.ref c) = false:=by simp [Builtin.List.listSameRef]; exact Nat.ne_of_gt hc
 simp only [hS,h1,h2,Bool.or_false,Bool.false_eq_true,if_false]
 refine wpAny_bind (hit _ _ k0 (by rw [Heap.size_push]; omega) fun it h'' hge kk st=>?_)
 have k2:∀ b o,s.heap.get? b = some o → h''.get? b = some o:=fun b o e=>kk b o (k0 b o e)
 refine wpAny_bind (wpAny_holding (hint h'' _ k2 ?_))
 have hitS:s.heap.objs.size < it:=Nat.lt_of_lt_of_le (by rw [Heap.size_push]; exact Nat.lt_succ_self _) hge
 have hcit:d ≠ it:=Nat.ne_of_lt (Nat.lt_trans hd hitS)
 have hSf:s.heap.objs.size ∉ [it,d]:=by
  intro z
  rcases List.mem_cons.mp z with z | z
  ·exact absurd z (Nat.ne_of_lt hitS)
  ·exact absurd (List.mem_singleton.mp z) (Nat.ne_of_gt hd)
 have hS2:h''.get? s.heap.objs.size = some (seqObj "list" #[] 0):=kk _ _ (Heap.get?_push_size _ rfl)
 have loop:∀ (h3:Heap) (cc:Nat),h3.get? s.heap.objs.size = some (seqObj "list" #[] cc) → (∀ b o,b ≠ s.heap.objs.size → h''.get? b = some o → h3.get? b = some o) →
   codeAny (model prog w) A (.builtin "list.extend.loop" ⟨[.ref s.heap.objs.size,.ref it,.ref s.heap.objs.size],[]⟩) (fun r s'=>match r with
    | .ok (.ret v)=>wpAny (model prog w) A (match v with
     | .ref a=>(do let o ← load a; match o.data with | .seq xs _=>pure xs.toList | _=>unsupported "internal:collect")
     | _=>unsupported "internal:collect") Q E s'
    | .ok _=>False
    | .error e=>E e s') { s with heap:=h3 }:=by
  intro h3 cc hS3 k3
  have st3:St it 0 h3:=(W it hcit).frame 0 h'' h3 st fun b hb o e=>k3 b o (fun z=>hSf (z ▸ hb)) e
  refine codeAny_extend_loopS (W it hcit).toS hn s.heap.objs.size hSf (.ref s.heap.objs.size) n 0 { s with heap:=h3 } #[] cc (by omega) (Nat.zero_le _) st3 hS3 (ItemsOf.nil P) fun s' acc' c' hm hS' hacc=>?_
  refine wpAny_bind (wpAny_load hS' (wpAny_pure ?_))
  obtain ⟨h4,g4,d4,t4,o4⟩:=s'
  obtain ⟨m1,m2,m3,m4,m5⟩:=hm
  obtain rfl:g4 = s.gens:=m2
  obtain rfl:d4 = s.drawn:=m3
  obtain rfl:o4 = s.os:=m4
  refine hQ h4 t4 acc' (fun b o e=>?_) (Heap.lt_size hS') m5 hacc
  have hb:b < s.heap.objs.size:=Heap.lt_size e
  refine m1 b o (fun z=>?_) (k3 b o (Nat.ne_of_lt hb) (k2 b o e))
  rcases List.mem_cons.mp z with z | z
  ·exact absurd z (Nat.ne_of_lt hb)
  ·exact absurd (List.mem_singleton.mp z) (Nat.ne_of_lt (Nat.lt_trans hb hitS))
 split
 ·refine wpAny_bind (wpAny_rule (wpAny_bind ?_))
  show wpAny _ A.in1 (updateSeq s.heap.objs.size (·.push .none) >>= fun _=>updateSeq s.heap.objs.size (·.pop)) _ _ _
  refine wpAny_bind (wpAny_updateSeq hS2 rfl ?_)
  have q1:=Heap.get?_update_self (Obj.mapSeq (·.push Value.none)) hS2 rfl
  refine wpAny_updateSeq q1 rfl ?_
  have q2:=Heap.get?_update_self (Obj.mapSeq (·.pop)) q1 rfl
  exact wpAny_pure ⟨plainId_quiet F.plain_extend_loop _,loop _ _ q2 fun b o hb e=>(Heap.get?_update_other _ _ (Ne.symm hb)).trans ((Heap.get?_update_other _ _ (Ne.symm hb)).trans e)⟩
 ·exact wpAny_pure ⟨plainId_quiet F.plain_extend_loop _,loop _ _ hS2 fun b o _ e=>e⟩
end
end Wr
namespace Wr
open PySem SetTable PyProof.Rows
section
variable {prog:Program} {w:World} {A:Around} {E:Value → Shared → Prop} {s:Shared}
end
end Wr
namespace Wr
open PySem SetTable PyProof.Rows
section
variable {prog:Program} {w:World} {A:Around} {E:Value → Shared → Prop} {s:Shared}
end
end Wr
namespace Wr
open PySem SetTable PyProof.Rows
section
variable {prog:Program} {w:World} {A:Around} {E:Value → Shared → Prop} {s:Shared}
end
end Wr
namespace Wr
open PySem SetTable PyProof.Rows
section
variable {prog:Program} {w:World} {A:Around} {E:Value → Shared → Prop} {s:Shared}
end
end Wr
namespace Wr
open PySem PyProof.Rows
section
variable {prog:Program} {w:World} {A:Around} {E:Value → Shared → Prop} {s:Shared}
end
end Wr
namespace Wr
open PySem PyProof.Rows
section
variable {prog:Program} {w:World} {A:Around} {E:Value → Shared → Prop} {s:Shared}
end
end Wr
namespace L2
open PySem PySem.Spec PyProof.Rows
section
variable {X:Cx} {pins:List (Addr × Obj)} {σ:St} {H:Hp} {s:Shared}
theorem zlr (I:Inv X pins σ H s) (hc:X.calm = true) : X.A.handled = none:=I.ok.hd hc
theorem znr {l:List Int} (h:l.Pairwise (· ≤ ·)) (nd:l.Nodup) : Wr.Inc l:=by
 induction l with
 | nil=>exact .nil
 | cons x l ih =>
  obtain ⟨h1,h2⟩:=List.pairwise_cons.mp h
  obtain ⟨n1,n2⟩:=List.nodup_cons.mp nd
  refine List.pairwise_cons.mpr ⟨fun y hy=>?_,ih h2 n2⟩
  have a:=h1 y hy
  have b:x ≠ y:=fun e=>n1 (e ▸ hy)
  omega
end
end L2
namespace L2
open PySem PySem.Spec PyProof.Rows
theorem nn {a b:Nat} (h:a ≠ b) : @Ne Addr a b:=h
theorem zjd (n l1 l2:Nat) (h1:l1 < n) (h2:l2 < n) : ZipApart (n + 4) (n + 2) (n + 3) n (n + 1) l1 l2:=by constructor <;> exact nn (by omega)
section
variable {X:Cx} {pins:List (Addr × Obj)} {σ:St} {H:Hp} {s:Shared} {h':Heap}
theorem Inv.turnedT {t':Nat} {fp:List Addr} {T:Addr} {o:HO} (I:Inv X pins σ H s) (hf:∀ b ∈ fp,FpOk X pins H b) (k:∀ b o,b ∉ fp → s.heap.get? b = some o → h'.get? b = some o) (kf:∀ b ∈ fp,∃ o,h'.get? b = some o)
  (hT:s.heap.objs.size ≤ T) (new:ObjOk X.prog X.w (upd H T o) h' T o) : Inv X pins σ (upd H T o) { s with heap:=h',toks:=t' }:=by
 have hn:H T = none:=I.hok.fresh hT
 have nit:∀ b u,H b = some u → b ∉ fp:=fun b u e z=>by rw [(hf b z).1] at e; cases e
 have neT:∀ b u,s.heap.get? b = some u → b ≠ T:=fun b u e=>Nat.ne_of_lt (Nat.lt_of_lt_of_le (Heap.lt_size e) hT)
 refine I.step (g':=s.gens) (d':=s.drawn) (ch:=fp) (fun b hb=>?_) (fun b o _ _ hc e _=>k b o hc e) (fun b o _ _ hc e _=>⟨o.slots,k b o hc e⟩) (fun b o _ e n=>by rw [zai (neT b o e)]; exact n)
  (fun b o hc e=>⟨o,k b o hc e⟩) (fun b xs e=>by rw [zai (zaq e hn)]; exact e) (fun b o u e=>by rw [zai (zaq e hn)]; exact e) (fun b ps e=>⟨#[],by rw [zai (zaq e hn),e]; simp⟩) (fun m hm=>?_) (fun b u e=>?_) I.bare
 ·obtain ⟨f0,f1,f2,f3,f4,f5⟩:=hf b hb
  exact ⟨f3,f1,f4,f5⟩
 ·obtain ⟨o,es,ep,ho,r⟩:=hm
  exact ⟨o,es,ep,k _ o (fun z=>(hf _ z).2.1 rfl) ho,r⟩
 ·by_cases hb:b = T
  ·subst hb; rw [zaa] at e; cases e; exact new
  ·rw [zai hb] at e
   refine (I.hok b u e).stay (fun c v hc q=>k c v ?_ q) (fun c q=>by rw [zai (zaq q hn)]; exact q) fun c xs q=>by rw [zai (zaq q hn)]; exact q
   rcases hc with z | z
   ·rw [z]; exact nit b u e
   ·exact nit c _ z
theorem Inv.turnedS {t':Nat} {fp:List Addr} (I:Inv X pins σ H s) (hf:∀ b ∈ fp,FpOk X pins H b) (k:∀ b o,b ∉ fp → s.heap.get? b = some o → h'.get? b = some o) : Inv X pins σ H { s with heap:=h',toks:=t' }:=by
 have nit:∀ b u,H b = some u → b ∉ fp:=fun b u e z=>by rw [(hf b z).1] at e; cases e
 refine I.step (g':=s.gens) (d':=s.drawn) (ch:=fp) (fun b hb=>?_) (fun b o _ _ hc e _=>k b o hc e) (fun b o _ _ hc e _=>⟨o.slots,k b o hc e⟩) (fun b o _ e n=>n)
  (fun b o hc e=>⟨o,k b o hc e⟩) (fun b xs e=>e) (fun b o u e=>e) (fun b ps e=>⟨#[],by rw [e]; simp⟩) (fun m hm=>?_) (fun b u e=>?_) I.bare
 ·obtain ⟨f0,f1,f2,f3,f4,f5⟩:=hf b hb
  exact ⟨f3,f1,f4,f5⟩
 ·obtain ⟨o,es,ep,ho,r⟩:=hm
  exact ⟨o,es,ep,k _ o (fun z=>(hf _ z).2.1 rfl) ho,r⟩
 ·refine (I.hok b u e).stay (fun c v hc q=>k c v ?_ q) (fun c q=>q) fun c xs q=>q
  rcases hc with z | z
  ·rw [z]; exact nit b u e
  ·exact nit c _ z
end
def Itz (K:PySem.W.Frag) (a b:Addr) : It :=
  ⟨fun i H=>∃ xs ys x y,SqL K H a xs ∧ SqL K H b ys ∧ xs[i]? = some x ∧ ys[i]? = some y,
   fun i H v H'=>∃ T x y,v = .ref T ∧ H T = none ∧ H' = upd H T (.tup [x,y]) ∧ ∀ xs ys,SqL K H a xs → SqL K H b ys → xs[i]? = some x ∧ ys[i]? = some y,
   fun i H=>∃ xs ys,SqL K H a xs ∧ SqL K H b ys ∧ (xs.length ≤ i ∨ ys.length ≤ i)⟩
abbrev zfp (n:Nat) : List Addr:=[n,n + 1,n + 2,n + 3,n + 4]
def ztn (n:Nat) (a b:Addr) (i:Nat) (h:Heap) : Prop :=
 IsZip h (n + 4) (n + 2) (n + 3) .none ∧ IsPair h (n + 2) (.ref n) (.ref (n + 1)) ∧ (∃ u v,IsPair h (n + 3) u v) ∧ h.IsListIter n a i ∧ h.IsListIter (n + 1) b i
theorem zj1 {n:Nat} {c:Addr} (h:c ∉ zfp n) : c ≠ n ∧ c ≠ n + 1 ∧ c ≠ n + 2 ∧ c ≠ n + 3 ∧ c ≠ n + 4:=by
 simp only [zfp,List.mem_cons,List.not_mem_nil,or_false,not_or] at h
 exact h
theorem zkf {P:Program} {w:World} {K:PySem.W.Frag} {elts:List Expr} {x1} {pos:Pos} (n a b:Nat) (ha:a < n) (hb:b < n) : Turn P w K (.Tuple elts x1 pos) (Itz K a b) (zfp n) (n + 4) (ztn n a b) where
 mem:=by simp [zfp]
 obj:=fun i h st c hc=>by
  obtain ⟨s1,s2,⟨u,v,s3⟩,⟨o1,e1,c1,d1⟩,⟨o2,e2,c2,d2⟩⟩:=st
  simp only [zfp,List.mem_cons,List.not_mem_nil,or_false] at hc
  rcases hc with rfl | rfl | rfl | rfl | rfl
  ·exact ⟨o1,e1,fun v z=>by rw [d1] at z; cases z⟩
  ·exact ⟨o2,e2,fun v z=>by rw [d2] at z; cases z⟩
  ·exact ⟨_,s2,fun v z=>by cases z⟩
  ·exact ⟨_,s3,fun v z=>by cases z⟩
  ·exact ⟨_,s1,fun v z=>by cases z⟩
 keep:=fun i h h' st k=>by
  obtain ⟨s1,s2,⟨u,v,s3⟩,s4,s5⟩:=st
  exact ⟨k _ (by simp [zfp]) _ s1,k _ (by simp [zfp]) _ s2,⟨u,v,k _ (by simp [zfp]) _ s3⟩,s4.at fun o e=>k _ (by simp [zfp]) o e,s5.at fun o e=>k _ (by simp [zfp]) o e⟩
 item:=by
  intro X hP hw hK hc i pins s σ H E I hf st hg
  subst hP hw hK
  obtain ⟨xs,ys,x,y,hq1,hq2,hx,hy⟩:=hg
  obtain ⟨it1,rv1,p1,z1⟩:=I.list hq1
  obtain ⟨it2,rv2,p2,z2⟩:=I.list hq2
  obtain ⟨u1,hu1,ru1⟩:=rv1.get hx
  obtain ⟨u2,hu2,ru2⟩:=rv2.get hy
  obtain ⟨s1,s2,⟨u,v,s3⟩,s4,s5⟩:=st
  refine wpAny_pyNext_zip_item (zjd n a b ha hb) s1 s2 s3 s4 s5 p1.isList p2.isList (by simpa using hu1) (by simpa using hu2) fun h' q1 q2 q3 q4 q5 q6 q7=>?_
  refine ⟨_,rfl,wpAny_letOwnedTupleGo_zip q1 fun h'' w1 w2=>?_⟩
  have lt4:n + 4 < s.heap.objs.size:=Heap.lt_size s1
  have nT:s.heap.objs.size ∉ zfp n:=fun z=>by simp only [zfp,List.mem_cons,List.not_mem_nil,or_false] at z; rcases z with z | z | z | z | z <;> exact absurd (show _ = (_:Nat) from z) (by omega)
  have kk:∀ c o,c ∉ zfp n → s.heap.get? c = some o → h''.get? c = some o:=fun c o hcn e=>by
   obtain ⟨m1,m2,m3,m4,m5⟩:=zj1 hcn
   exact w2.extBut _ _ m5 (q7 c o m5 m4 m1 m2 e)
  have q5':IsPair h'' s.heap.objs.size u1 u2:=w2.extBut _ _ (nn (by omega)) q5
  have t2:IsPair h'' (n + 2) (.ref n) (.ref (n + 1)):=w2.extBut _ _ (nn (by omega)) (q7 _ _ (nn (by omega)) (nn (by omega)) (nn (by omega)) (nn (by omega)) s2)
  have st':ztn n a b (i + 1) h'':=⟨w1,t2,⟨_,_,w2.extBut _ _ (nn (by omega)) q2⟩,q3.extBut w2.extBut (nn (by omega)),q4.extBut w2.extBut (nn (by omega))⟩
  have vv:Vals [x,y] [u1,u2]:=.cons ru1 (.cons ru2 .nil)
  have I1:Inv X pins σ (upd H s.heap.objs.size (.tup [x,y])) { s with heap:=h'' }:=I.turnedT (t':=s.toks) hf kk (fun c hcn=>by
   obtain ⟨t1,t2,⟨_,_,t3⟩,⟨_,t4,_⟩,⟨_,t5,_⟩⟩:=st'
   simp only [zfp,List.mem_cons,List.not_mem_nil,or_false] at hcn
   rcases hcn with rfl | rfl | rfl | rfl | rfl
   ·exact ⟨_,t4⟩
   ·exact ⟨_,t5⟩
   ·exact ⟨_,t2⟩
   ·exact ⟨_,t3⟩
   ·exact ⟨_,t1⟩) (Nat.le_refl _) ⟨by show 2 ≤ sizeLine; decide,[u1,u2],vv,_,q5',rfl,_,rfl⟩
  refine ⟨.ref s.heap.objs.size,_,I1,rfl,⟨_,x,y,rfl,I.hok.fresh (Nat.le_refl _),rfl,fun xs' ys' k1 k2=>?_⟩,st',fun c hcn=>?_⟩
  ·rw [I.list_inj k1 hq1,I.list_inj k2 hq2]; exact ⟨hx,hy⟩
  ·rw [zai (fun (z:c = s.heap.objs.size)=>nT (by rw [← z]; exact hcn))]; exact (hf c hcn).1
 done:=by
  intro X hP hw hK hc i pins s σ H E I hf st hg
  subst hP hw hK
  obtain ⟨xs,ys,hq1,hq2,hz⟩:=hg
  obtain ⟨it1,rv1,p1,z1⟩:=I.list hq1
  obtain ⟨it2,rv2,p2,z2⟩:=I.list hq2
  obtain ⟨s1,s2,⟨u,v,s3⟩,s4,s5⟩:=st
  have l1:=rv1.length
  have l2:=rv2.length
  refine wpAny_pyNext_zip_end (I.ok.hd hc) (zjd n a b ha hb) s1 s2 s3 s4 s5 p1.isList p2.isList ?_ fun h' kk=>⟨rfl,I.turnedS (t':=s.toks) hf fun c o hcn e=>?_⟩
  ·rcases hz with z | z
   ·left; simp; omega
   ·right; simp; omega
  ·obtain ⟨m1,m2,m3,m4,m5⟩:=zj1 hcn
   exact kk c o m5 m4 m1 m2 e
 self:=fun _ _ _ _ _ st h=>wpAny_pyIter_zip st.1 h
section
variable {X:Cx} {elts:List Expr} {x1} {ps:Pos}
def iZip (K:PySem.W.Frag) (ta:TA) : TI:=fun σ H R=>ta σ H fun vs H1=>∃ a b,vs = [.ref a,.ref b] ∧ (∃ xs,SqL K H1 a xs) ∧ (∃ ys,SqL K H1 b ys) ∧ R (Itz K a b) H1
theorem zna {e1 e2:Expr} {ta:TA} {p pos:Pos} (hg:Gl X "zip") (hm:X.mg "zip" = none) (ha:PA X [e1,e2] ta) (hs:starEach [e1,e2] X.env = [(false,eval e1 X.env),(false,eval e2 X.env)]) (hs2:starEach [e2] X.env = [(false,eval e2 X.env)]) :
  PI X (.Tuple elts x1 ps) (.Call (.Name "zip" p) [e1,e2] [] pos) (iZip X.K ta):=by
 intro pins s σ H R I h
 refine Call_ (zed I hg hm boot_zip (PyProof.Rows.callWith_type1 (thn (ha pos pins s σ H _ I h) fun us s1 ⟨vs,H1,I1,r1,q1⟩=>?_) (by rw [hs,hs2]) (by rw [hs2]; rfl)))
 obtain ⟨a,b,e,⟨xs,hq1⟩,⟨ys,hq2⟩,q⟩:=q1
 subst e
 cases r1 with
 | cons r rr =>
  cases rr with
  | cons r' rr =>
   cases rr
   cases r
   cases r'
   obtain ⟨it1,rv1,p1,z1⟩:=I1.list hq1
   obtain ⟨it2,rv2,p2,z2⟩:=I1.list hq2
   have la:a < s1.heap.objs.size:=by obtain ⟨o,n,e,_⟩:=p1; exact Heap.lt_size e
   have lb:b < s1.heap.objs.size:=by obtain ⟨o,n,e,_⟩:=p2; exact Heap.lt_size e
   refine call_zip_2 p1.isList p2.isList fun h' k1 k2 k3 k4 k5 k6 k7=>?_
   refine wpAny_pyIter_zip k1 ?_
   refine ⟨_,zfp s1.heap.objs.size,ztn s1.heap.objs.size a b,Itz X.K a b,H1,rfl,I1.kept (t':=s1.toks) k7,zkf s1.heap.objs.size a b la lb,⟨k1,k2,⟨_,_,k3⟩,k4,k5⟩,fun c hc=>?_,q⟩
   refine I1.fpOk ?_ (I1.hok.fresh ?_)
   all_goals (simp only [zfp,List.mem_cons,List.not_mem_nil,or_false] at hc; rcases hc with rfl | rfl | rfl | rfl | rfl <;> simp)
theorem zoD {e1 e2:Expr} {t:TA} {p pos:Pos} (hm:X.mg "zip" = none) (ha:JA X [e1,e2] t) (hg:Gl X "zip" := by rfl) : JI X (.Tuple elts x1 ps) (.Call (.Name "zip" p) [e1,e2] [] pos) (iZip X.K t) :=
 ⟨zna hg hm ha.h (by rw [ha.hd.star,(Nsts.star ha.rs _)]; rfl) (by rw [(Nsts.star ha.rs _)]; rfl)⟩
theorem zoH {K:PySem.W.Frag} {a b:Addr} {xs ys:List V} {g:TG} {tb:TS} {D:Ends} {σ:St} {H:Hp} (hlen:xs.length = ys.length) (Pv:Nat → St → Hp → Prop) (h0:Pv 0 σ H) (hl:∀ i σ H,i ≤ xs.length → Pv i σ H → SqL K H a xs ∧ SqL K H b ys)
  (hs:∀ i x y T σ H,xs[i]? = some x → ys[i]? = some y → Pv i σ H → H T = none → g (.ref T) σ (upd H T (.tup [x,y])) fun σ2 H2=>tb { D with nx:=Pv (i + 1),ct:=Pv (i + 1),bk:=D.nx } σ2 H2) (hd:∀ σ H,Pv xs.length σ H → D.nx σ H) :
  ∃ W:Nat → Nat → St → Hp → Prop,(∃ m,W 0 m σ H) ∧ ∀ i m σ H,W i m σ H →
   ((Itz K a b).stop i H ∧ D.nx σ H) ∨ ((Itz K a b).go i H ∧ ∃ N:St → Hp → Prop,(∀ σ' H',N σ' H' → ∃ m',m' < m ∧ W (i + 1) m' σ' H') ∧ ∀ x H',(Itz K a b).yld i H x H' → g x σ H' fun σ2 H2=>tb { D with nx:=N,ct:=N,bk:=D.nx } σ2 H2):=by
 refine ⟨fun i m σ H=>m = xs.length - i ∧ i ≤ xs.length ∧ Pv i σ H,⟨xs.length,by simp,Nat.zero_le _,h0⟩,?_⟩
 rintro i m σ H ⟨rfl,hi,p⟩
 obtain ⟨q1,q2⟩:=hl i σ H hi p
 by_cases hlt:i < xs.length
 ·refine .inr ⟨⟨xs,ys,xs[i],ys[i]'(hlen ▸ hlt),q1,q2,by simp [hlt],by simp [hlen ▸ hlt]⟩,Pv (i + 1),fun σ' H' p'=>⟨xs.length - (i + 1),by omega,rfl,hlt,p'⟩,fun x H' y=>?_⟩
  obtain ⟨T,x,y,rfl,hT,rfl,e⟩:=y
  obtain ⟨e1,e2⟩:=e xs ys q1 q2
  exact hs i x y T σ H e1 e2 p hT
 ·have e:i = xs.length:=by omega
  subst e
  exact .inl ⟨⟨xs,ys,q1,q2,.inl (Nat.le_refl _)⟩,hd σ H p⟩
theorem zkh {K:PySem.W.Frag} {a b:Addr} {xs ys:List V} {g:TG} {tt:TT} {te:TE} {Q:VK} {σ:St} {H:Hp} {D:Addr} (hlen:xs.length = ys.length) (Pv:Nat → St → Hp → Prop) (h0:Pv 0 σ H) (hl:∀ i σ H,i ≤ xs.length → Pv i σ H → SqL K H a xs ∧ SqL K H b ys)
  (hs:∀ i x y T σ H,xs[i]? = some x → ys[i]? = some y → Pv i σ H → H T = none → g (.ref T) σ (upd H T (.tup [x,y])) fun σ2 H2=>tt σ2 H2 fun b H3=>if b = true then te σ2 H3 fun v H4=>∃ zs,H4 D = some (.lst zs) ∧ zs.length < sizeLine ∧ Pv (i + 1) σ2 (upd H4 D (.lst (zs ++ [v]))) else Pv (i + 1) σ2 H3)
  (hd:∀ σ H,Pv xs.length σ H → Q (.ref D) H) : zdw (Itz K a b) g tt te D Q σ H:=by
 refine ⟨fun i m σ H=>m = xs.length - i ∧ i ≤ xs.length ∧ Pv i σ H,⟨xs.length,by simp,Nat.zero_le _,h0⟩,?_⟩
 rintro i m σ H ⟨rfl,hi,p⟩
 obtain ⟨q1,q2⟩:=hl i σ H hi p
 by_cases hlt:i < xs.length
 ·refine .inr ⟨⟨xs,ys,xs[i],ys[i]'(hlen ▸ hlt),q1,q2,by simp [hlt],by simp [hlen ▸ hlt]⟩,fun σ' H'=>Pv (i + 1) σ' H',fun σ' H' p'=>⟨xs.length - (i + 1),by omega,rfl,hlt,p'⟩,fun x H' y=>?_⟩
  obtain ⟨T,x,y,rfl,hT,rfl,e⟩:=y
  obtain ⟨e1,e2⟩:=e xs ys q1 q2
  exact hs i x y T σ H e1 e2 p hT
 ·have e:i = xs.length:=by omega
  subst e
  exact .inl ⟨⟨xs,ys,q1,q2,.inl (Nat.le_refl _)⟩,hd σ H p⟩
theorem zkm {K:PySem.W.Frag} {a:Addr} {xs:List V} {g:TG} {tt:TT} {te:TE} {Q:VK} {σ:St} {H:Hp} {D:Addr} (Pv:Nat → St → Hp → Prop) (h0:Pv 0 σ H) (hl:∀ i σ H,i ≤ xs.length → Pv i σ H → SqT K H a xs)
  (hs:∀ i x σ H,xs[i]? = some x → Pv i σ H → g x σ H fun σ2 H2=>tt σ2 H2 fun b H3=>if b = true then te σ2 H3 fun v H4=>∃ zs,H4 D = some (.lst zs) ∧ zs.length < sizeLine ∧ Pv (i + 1) σ2 (upd H4 D (.lst (zs ++ [v]))) else Pv (i + 1) σ2 H3)
  (hd:∀ σ H,Pv xs.length σ H → Q (.ref D) H) : zdw (Itt K a) g tt te D Q σ H:=by
 refine ⟨fun i m σ H=>m = xs.length - i ∧ i ≤ xs.length ∧ Pv i σ H,⟨xs.length,by simp,Nat.zero_le _,h0⟩,?_⟩
 rintro i m σ H ⟨rfl,hi,p⟩
 have q:=hl i σ H hi p
 by_cases hlt:i < xs.length
 ·refine .inr ⟨⟨xs,xs[i],q,by simp [hlt]⟩,fun σ' H'=>Pv (i + 1) σ' H',fun σ' H' p'=>⟨xs.length - (i + 1),by omega,rfl,hlt,p'⟩,fun x H' y=>?_⟩
  obtain ⟨e,y⟩:=y
  subst e
  exact hs i x σ _ (y xs q) p
 ·have e:i = xs.length:=by omega
  subst e
  exact .inl ⟨⟨xs,q,Nat.le_refl _⟩,hd σ H p⟩
end
section
variable {X:Cx} {e o i:Expr} {te to ti:TE} {t:TA} {pos:Pos} {k:Nat}
theorem zn5 {apos cpos spos:Pos} (ho:JE X o to) (ha:JA X [e] t) (hbase:attributeBase o "extend" X.env (eval o X.env) = eval o X.env:=by rfl) (hline:(apos.endLine == cpos.line) = true:=by rfl) :
  JS X (.Expr (.Call (.Attribute o "extend" apos) [e] [] cpos) spos) (zeX (tBM X.K "list" zjG to t)) :=
 ⟨zhi (zkq PySem.F.plainAttrs_list PySem.F.slot_list_extend PySem.F.type_list_extend zjJ ho.h ha.h hbase (by rw [ha.hd.star]; rfl) hline (ha.hd.star _ _) rfl) (Pln.swap (.call ..) _ _ _)⟩
end
end L2
namespace L2
open PySem PySem.Spec PyProof.Rows
def Ite (K:PySem.W.Frag) (a:Addr) : It :=
  ⟨fun i H=>∃ xs x,SqL K H a xs ∧ xs[i]? = some x,
   fun i H v H'=>∃ T x,v = .ref T ∧ H T = none ∧ H' = upd H T (.tup [.int i,x]) ∧ ∀ xs,SqL K H a xs → xs[i]? = some x,
   fun i H=>∃ xs,SqL K H a xs ∧ xs.length ≤ i⟩
abbrev efp (n:Nat) : List Addr:=[n,n + 1]
def etn (n:Nat) (a:Addr) (i:Nat) (h:Heap) : Prop:=(∃ old,IsEnum h (n + 1) n i old) ∧ h.IsListIter n a i
theorem ziN {n:Nat} {c:Addr} (h:c ∉ efp n) : c ≠ n ∧ c ≠ n + 1:=by
 simp only [efp,List.mem_cons,List.not_mem_nil,or_false,not_or] at h
 exact h
theorem zjm {P:Program} {w:World} {K:PySem.W.Frag} {elts:List Expr} {x1} {pos:Pos} (n a:Nat) (ha:a < n) : Turn P w K (.Tuple elts x1 pos) (Ite K a) (efp n) (n + 1) (etn n a) where
 mem:=by simp [efp]
 obj:=fun i h st c hc=>by
  obtain ⟨⟨old,s1⟩,o1,e1,c1,d1⟩:=st
  simp only [efp,List.mem_cons,List.not_mem_nil,or_false] at hc
  rcases hc with rfl | rfl
  ·exact ⟨o1,e1,fun v z=>by rw [d1] at z; cases z⟩
  ·exact ⟨_,s1,fun v z=>by cases z⟩
 keep:=fun i h h' st k=>by
  obtain ⟨⟨old,s1⟩,s4⟩:=st
  exact ⟨⟨old,k _ (by simp [efp]) _ s1⟩,s4.at fun o e=>k _ (by simp [efp]) o e⟩
 item:=by
  intro X hP hw hK hc i pins s σ H E I hf st hg
  subst hP hw hK
  obtain ⟨xs,x,hq,hx⟩:=hg
  obtain ⟨it1,rv1,p1,z1⟩:=I.list hq
  obtain ⟨u1,hu1,ru1⟩:=rv1.get hx
  obtain ⟨⟨old,s1⟩,s4⟩:=st
  refine wpAny_pyNext_enum_item s1 s4 p1.isList (by simpa using hu1) (nn (by omega)) fun h' q1 q3 q5 q6 q7=>?_
  refine ⟨_,rfl,wpAny_letOwnedTupleGo_enum q1 fun h'' w1 w2=>?_⟩
  have lt1:n + 1 < s.heap.objs.size:=Heap.lt_size s1
  have nT:s.heap.objs.size ∉ efp n:=fun z=>by simp only [efp,List.mem_cons,List.not_mem_nil,or_false] at z; rcases z with z | z <;> exact absurd (show _ = (_:Nat) from z) (by omega)
  have kk:∀ c o,c ∉ efp n → s.heap.get? c = some o → h''.get? c = some o:=fun c o hcn e=>by
   obtain ⟨m1,m2⟩:=ziN hcn
   exact w2.extBut _ _ m2 (q7 c o m2 m1 e)
  have st':etn n a (i + 1) h'':=⟨⟨_,by have:=w1; simpa using this⟩,q3.extBut w2.extBut (nn (by omega))⟩
  have vv:Vals [.int i,x] [.int i s.toks,u1]:=.cons ⟨_,rfl⟩ (.cons ru1 .nil)
  have q5':=w2.extBut _ _ (nn (by omega)) q5
  have I1:Inv X pins σ (upd H s.heap.objs.size (.tup [.int i,x])) { s with heap:=h'',toks:=s.toks + 1 }:=I.turnedT (t':=s.toks + 1) hf kk (fun c hcn=>by
   obtain ⟨⟨_,t1⟩,⟨_,t4,_⟩⟩:=st'
   simp only [efp,List.mem_cons,List.not_mem_nil,or_false] at hcn
   rcases hcn with rfl | rfl
   ·exact ⟨_,t4⟩
   ·exact ⟨_,t1⟩) (Nat.le_refl _) ⟨by show 2 ≤ sizeLine; decide,[.int i s.toks,u1],vv,_,q5',rfl,_,rfl⟩
  refine ⟨.ref s.heap.objs.size,_,I1,rfl,⟨_,x,rfl,I.hok.fresh (Nat.le_refl _),rfl,fun xs' k1=>?_⟩,st',fun c hcn=>?_⟩
  ·rw [I.list_inj k1 hq]; exact hx
  ·rw [zai (fun (z:c = s.heap.objs.size)=>nT (by rw [← z]; exact hcn))]; exact (hf c hcn).1
 done:=by
  intro X hP hw hK hc i pins s σ H E I hf st hg
  subst hP hw hK
  obtain ⟨xs,hq,hz⟩:=hg
  obtain ⟨it1,rv1,p1,z1⟩:=I.list hq
  obtain ⟨⟨old,s1⟩,s4⟩:=st
  have l1:=rv1.length
  refine wpAny_pyNext_enum_end (I.ok.hd hc) s1 s4 p1.isList (by simp; omega) fun h' kk=>⟨rfl,I.turnedS (t':=s.toks) hf fun c o hcn e=>?_⟩
  obtain ⟨m1,m2⟩:=ziN hcn
  exact kk c o m1 e
 self:=fun _ _ _ _ _ st h=>by obtain ⟨⟨_,s1⟩,_⟩:=st; exact wpAny_pyIter_enum s1 h
section
variable {X:Cx} {elts:List Expr} {x1} {ps:Pos}
def zm2 (K:PySem.W.Frag) (ta:TA) : TI:=fun σ H R=>ta σ H fun vs H1=>∃ a,vs = [.ref a] ∧ (∃ xs,SqL K H1 a xs) ∧ R (Ite K a) H1
theorem zlI {e1:Expr} {ta:TA} {p pos:Pos} (hg:Gl X "enumerate") (hm:X.mg "enumerate" = none) (ha:PA X [e1] ta) (hs:starEach [e1] X.env = [(false,eval e1 X.env)]) :
  PI X (.Tuple elts x1 ps) (.Call (.Name "enumerate" p) [e1] [] pos) (zm2 X.K ta):=by
 intro pins s σ H R I h
 refine Call_ (zed I hg hm boot_enumerate (PyProof.Rows.callWith_type1 (thn (ha pos pins s σ H _ I h) fun us s1 ⟨vs,H1,I1,r1,q1⟩=>?_) hs rfl))
 obtain ⟨a,e,⟨xs,hq1⟩,q⟩:=q1
 subst e
 cases r1 with
 | cons r rr =>
  cases rr
  cases r
  obtain ⟨it1,rv1,p1,z1⟩:=I1.list hq1
  have la:a < s1.heap.objs.size:=by obtain ⟨o,n,e,_⟩:=p1; exact Heap.lt_size e
  refine call_enumerate_list p1.isList fun h' k1 k4 k6 k7=>?_
  refine wpAny_pyIter_enum k1 ?_
  refine ⟨_,efp s1.heap.objs.size,etn s1.heap.objs.size a,Ite X.K a,H1,rfl,I1.kept (t':=s1.toks) k7,zjm s1.heap.objs.size a la,⟨⟨_,k1⟩,k4⟩,fun c hc=>?_,q⟩
  refine I1.fpOk ?_ (I1.hok.fresh ?_)
  all_goals (simp only [efp,List.mem_cons,List.not_mem_nil,or_false] at hc; rcases hc with rfl | rfl <;> simp)
theorem zlj {e1:Expr} {t:TA} {p pos:Pos} (hm:X.mg "enumerate" = none) (ha:JA X [e1] t) (hg:Gl X "enumerate" := by rfl) : JI X (.Tuple elts x1 ps) (.Call (.Name "enumerate" p) [e1] [] pos) (zm2 X.K t) :=
 ⟨zlI hg hm ha.h (ha.hd.star _ _)⟩
theorem zfL {K:PySem.W.Frag} {a:Addr} {xs:List V} {g:TG} {tb:TS} {D:Ends} {σ:St} {H:Hp} (Pv:Nat → St → Hp → Prop) (h0:Pv 0 σ H) (hl:∀ i σ H,i ≤ xs.length → Pv i σ H → SqL K H a xs)
  (hs:∀ (i:Nat) x T σ H,xs[i]? = some x → Pv i σ H → H T = none → g (.ref T) σ (upd H T (.tup [.int i,x])) fun σ2 H2=>tb { D with nx:=Pv (i + 1),ct:=Pv (i + 1),bk:=D.nx } σ2 H2) (hd:∀ σ H,Pv xs.length σ H → D.nx σ H) :
  ∃ W:Nat → Nat → St → Hp → Prop,(∃ m,W 0 m σ H) ∧ ∀ i m σ H,W i m σ H →
   ((Ite K a).stop i H ∧ D.nx σ H) ∨ ((Ite K a).go i H ∧ ∃ N:St → Hp → Prop,(∀ σ' H',N σ' H' → ∃ m',m' < m ∧ W (i + 1) m' σ' H') ∧ ∀ x H',(Ite K a).yld i H x H' → g x σ H' fun σ2 H2=>tb { D with nx:=N,ct:=N,bk:=D.nx } σ2 H2):=by
 refine ⟨fun i m σ H=>m = xs.length - i ∧ i ≤ xs.length ∧ Pv i σ H,⟨xs.length,by simp,Nat.zero_le _,h0⟩,?_⟩
 rintro i m σ H ⟨rfl,hi,p⟩
 have q1:=hl i σ H hi p
 by_cases hlt:i < xs.length
 ·refine .inr ⟨⟨xs,xs[i],q1,by simp [hlt]⟩,Pv (i + 1),fun σ' H' p'=>⟨xs.length - (i + 1),by omega,rfl,hlt,p'⟩,fun x H' y=>?_⟩
  obtain ⟨T,x,rfl,hT,rfl,e⟩:=y
  exact hs i x T σ H (e xs q1) p hT
 ·have e:i = xs.length:=by omega
  subst e
  exact .inl ⟨⟨xs,q1,Nat.le_refl _⟩,hd σ H p⟩
end
end L2
namespace L2
open PySem PySem.Spec PyProof.Rows
section
variable {prog:Program} {w:World} {A:Around} {E:Value → Shared → Prop} {s:Shared}
theorem zcc {a:Addr} {n:Nat} {xs:List V} {vs:List Value} {kf:V → List Int} {P:PySem.Fin → Shared → Prop} (ho:s.heap.get? a = some (seqObj "list" vs.toArray n)) (r:Vals xs vs) (K:KeysAt s.heap vs (xs.map kf)) (h64:vs.length < 64)
  (h:∀ (ys:List V) (ws:List Value),Vals ys ws → ys.Perm xs → za0 kf ys → P (.done (.ret .none)) { s with heap:=sortedHeap s.heap a vs ws.toArray }) :
  wpAny (model prog w) A (Builtin.«list.sort» ⟨[.ref a],[]⟩) P E s:=by
 rw [list_sort_plain]; have ha:a < s.heap.objs.size:=Heap.lt_size ho
 have hl:=Vals.length r; refine wpAny_bind (listItems_at ho rfl ?_)
 refine wpAny_bind (listUpdate_at ho rfl ?_); obtain ⟨e1,ho1⟩ : ∃ e1,(s.heap.update a (Obj.mapSeq fun _=>#[])).get? a = some (seqObj "list" #[] e1):=⟨_,get?_update_seq ho (fun _=>#[])⟩
 refine wpAny_bind (seqEpoch_at ho1 rfl ?_); refine wpAny_bind (wpAny_newTuple ?_)
 refine wpAny_bind (wpAny_newList ?_); refine wpAny_holding ?_
 have ho6:(((s.heap.update a (Obj.mapSeq fun _=>#[])).push (seqObj "tuple" vs.toArray 0)).push (seqObj "list" #[] 0)).get? a = some (seqObj "list" #[] e1):=by
  rw [Heap.get?_push_ne _ _ _ (by rw [size_push',Heap.size_update]; exact Nat.ne_of_lt (Nat.lt_succ_of_lt ha)),Heap.get?_push_ne _ _ _ (by rw [Heap.size_update]; exact Nat.ne_of_lt ha)]; exact ho1
 show wpAny (model prog w) A _ P E { s with heap:=((s.heap.update a (Obj.mapSeq fun _=>#[])).push (seqObj "tuple" vs.toArray 0)).push (seqObj "list" #[] 0) }; dsimp only
 have hsz:vs.toArray.size = vs.length:=by simp
 by_cases h2:vs.toArray.size < 2
 ·rw [if_pos h2,if_pos h2]
  refine wpAny_bind (wpAny_pure ?_); rw [StateT.run_pure]
  refine wpAny_bind (wpAny_pure ?_); dsimp only
  refine wpAny_bind (seqEpoch_at ho6 rfl ?_)
  have eo:(arrOf (SortSt.mk' general' (vs.toArray.zip vs.toArray) #[] 7 none)).map (·.2) = vs.toArray:=by
   show ((vs.toArray.zip vs.toArray)).map (·.2) = vs.toArray
   apply Array.toList_inj.mp
   rw [Array.toList_map,Array.toList_zip,List.map_snd_zip]
   simp
  rw [eo]; refine wpAny_bind (listUpdate_at ho6 rfl ?_ (hsz2:=by rw [hsz,sizeLine_eq]; omega))
  simp only [bne_self_eq_false,Bool.false_eq_true,if_false]; refine wpAny_pure (h xs vs r (List.Perm.refl _) ?_)
  unfold za0
  match xs,hl with
  | [],_=>exact .nil
  | [_],_=>exact List.pairwise_singleton _ _
  | _ :: _ :: _,hl=>simp at hl; omega
 ·rw [if_neg h2,if_neg h2]
  have h2':2 ≤ vs.length:=by rw [hsz] at h2; omega
  have K6:KeysAt (((s.heap.update a (Obj.mapSeq fun _=>#[])).push (seqObj "tuple" vs.toArray 0)).push (seqObj "list" #[] 0)) vs (xs.map kf):=Paired.mapP K fun v k x=>x.keeps fun b o hb hc=>by
   have ne:b ≠ a:=fun e=>by rw [e,ho] at hb; cases hb; have hc':Value.type "list" = Value.type "tuple" := hc; injection hc' with q; exact absurd q (by decide)
   have hlt:b < s.heap.objs.size:=Heap.lt_size hb
   rw [Heap.get?_push_ne _ _ _ (by rw [size_push',Heap.size_update]; exact Nat.ne_of_lt (Nat.lt_succ_of_lt hlt)),Heap.get?_push_ne _ _ _ (by rw [Heap.size_update]; exact Nat.ne_of_lt hlt),Heap.get?_update_ne _ _ _ _ ne]; exact hb
  generalize hs6:({ s with heap:=((s.heap.update a (Obj.mapSeq fun _=>#[])).push (seqObj "tuple" vs.toArray 0)).push (seqObj "list" #[] 0) } : Shared) = s6
  have K6':KeysAt s6.heap vs (xs.map kf):=(by rw [← hs6]; exact K6); refine wpAny_bind (zf9 K6' (by omega) ?_)
  refine wpAny_bind (wpAny_mono (PySem.W.kat_run (Q:=fun st' s'=>s' = s6 ∧ ∃ p:Array Nat,arrOf st' = p.map (PySem.W.kas_item (vs.toArray.zip vs.toArray)) ∧ failedOf st' = none ∧ Wr.PBase vs.length p ∧ Wr.Up (fun i=>zeC (xs.map kf) ((xs.map kf).getD i [])) p vs.length)
   (G:=fun p s'=>s' = s6 ∧ Wr.PBase vs.length p ∧ Wr.Up (fun i=>zeC (xs.map kf) ((xs.map kf).getD i [])) p vs.length) rfl h2' (by omega) (fun p st' s' a1 a2 a3 a4=>⟨a4.1,p,a2,a3,a4.2⟩) ?_) ?_ fun _ _ z=>z)
  ·exact Wr.w_sort (zgv (prog:=prog) (w:=w) (A:=A) K6') (by omega) fun p B u=>⟨rfl,B,u⟩
  ·rintro ⟨⟨⟩,st'⟩ s' ⟨rfl,p,e1',hf,B,u⟩
   dsimp only
   subst hs6
   have ho':=PySem.W.kat_snds rfl e1'; rw [← hl] at B u
   refine wpAny_bind (seqEpoch_at ho6 rfl ?_); rw [ho']
   refine wpAny_bind (listUpdate_at ho6 rfl ?_ (hsz2:=(by rw [List.size_toArray,List.length_map,Array.length_toList,B.size,sizeLine_eq]; omega))); rw [hf]
   simp only [bne_self_eq_false,Bool.false_eq_true,if_false]; exact wpAny_pure (h _ _ (zer r p.toList) (zgb xs .non p.toList B.perm) (zd7 B u (by omega)))
end
end L2
namespace Wr
open PySem PySem.Spec PyProof.Rows
structure RDict (h:Heap) (d:Addr) (es:Array DictEntry) (ep:Nat) : Prop where
 ex:∃ o,h.get? d = some o ∧ o.ExactDict ∧ o.data = .dict es ep
theorem RDict.at {h h':Heap} {d:Addr} {es:Array DictEntry} {ep:Nat} (x:RDict h d es ep) (e:∀ o,h.get? d = some o → h'.get? d = some o) : RDict h' d es ep:=let ⟨o,a,r⟩:=x.ex; ⟨o,e o a,r⟩
section
variable {prog:Program} {w:World} {A:Around} {E:Value → Shared → Prop} {s:Shared} {d:Addr} {es:Array DictEntry} {ep:Nat}
theorem RDict.typeIs (x:RDict s.heap d es ep) : s.TypeIs (.ref d) "dict" := let ⟨o,a,b,_⟩:=x.ex; ⟨o,a,b.1⟩
theorem rd_iter {Q:Value → Shared → Prop} (hd:(d == sysModules) = false) (hm:RDict s.heap d es ep)
  (hQ:∀ h',h'.IsKeyIter s.heap.objs.size d 0 es.size ep → (∀ b o,s.heap.get? b = some o → h'.get? b = some o) → Q (.ref s.heap.objs.size) { s with heap:=h' }) : wpAny (model prog w) A (pyIter (.ref d)) Q E s:=by
 obtain ⟨o,ho,hc,hdat⟩:=id hm.ex; have hT:=hm.typeIs
 refine wpAny_pyIter_slot hT F.slot_dict_iter (wpAny_call_entry F.slot_dict_iter hT F.entry_dict_iter ?_ (F.args_dict_iter_1 _)); unfold Builtin.«dict.__iter__»
 refine wpAny_bind ?_; unfold Builtin.Dict.dictSlotNone
 refine wpAny_bind (wpAny_notOrdered_dict hT ?_); show wpAny _ _ (pure (Value.ref d)) _ _ s
 refine wpAny_pure ?_; show wpAny _ _ (Builtin.Dict.showsAll d >>= _) _ _ s
 unfold Builtin.Dict.showsAll; rw [if_neg (by rw [hd]; exact Bool.false_ne_true)]
 refine wpAny_bind (wpAny_pure (wpAny_bind (wpAny_dictEntries ho hdat (wpAny_bind (wpAny_dictEpoch ho hdat ?_)))))
 refine wpAny_bind (wpAny_newObj_type (wpAny_pure ⟨_,rfl,"dict_keyiterator", _,⟨_,Heap.get?_push_size _ rfl,rfl⟩,F.slot_dict_keyiterator_next.lookup,?_⟩))
 exact hQ _ ⟨_,Heap.get?_push_size _ rfl,rfl,rfl⟩ fun b o e=>Heap.get?_push_of_some _ e
theorem rd_iterK {v:Addr} {Q:Value → Shared → Prop} (hv:PySem.W.KdlKeysView s.heap v d) (hm:RDict s.heap d es ep)
  (hQ:∀ h',h'.IsKeyIter s.heap.objs.size d 0 es.size ep → (∀ b o,s.heap.get? b = some o → h'.get? b = some o) → Q (.ref s.heap.objs.size) { s with heap:=h' }) : wpAny (model prog w) A (pyIter (.ref v)) Q E s:=by
 obtain ⟨ov,hov,hcv,hdv⟩:=id hv; obtain ⟨o,ho,hc,hdat⟩:=id hm.ex
 refine wpAny_pyIter_slot hv.typeIs PySem.W.kdl_slot_keys_iter (wpAny_call_entry PySem.W.kdl_slot_keys_iter hv.typeIs PySem.W.kdl_entry_keys_iter ?_ (PySem.W.kdl_args_keys_iter _)); unfold Builtin.«dict_keys.__iter__»
 refine wpAny_bind (wpAny_pure (wpAny_bind ?_)); unfold Builtin.Dict_items.dictOf
 refine wpAny_bind (wpAny_field hov hdv (x:=.ref d) rfl (wpAny_pure (wpAny_bind ?_))); unfold Builtin.Dict_items.newIterator
 refine wpAny_bind (wpAny_dictEntries ho hdat (wpAny_bind (wpAny_dictEpoch ho hdat ?_)))
 have hown:Builtin.Dict_items.ownsTuple "dict_keyiterator" = false:=(by decide); simp only [hown,Bool.false_eq_true,if_false]
 refine wpAny_newObj_type (wpAny_pure ⟨_,rfl,"dict_keyiterator", _,⟨_,Heap.get?_push_size _ rfl,rfl⟩,PySem.F.slot_dict_keyiterator_next.lookup,?_⟩)
 exact hQ _ ⟨_,Heap.get?_push_size _ rfl,rfl,rfl⟩ fun b o e=>Heap.get?_push_of_some _ e
theorem rd_next {it:Addr} {i:Nat} {e:DictEntry} {Q:Option Value → Shared → Prop} (hit:s.heap.IsKeyIter it d i es.size ep) (hm:RDict s.heap d es ep) (hx:es[i]? = some e)
  (hQ:∀ h',h'.IsKeyIter it d (i + 1) es.size ep → Heap.SameBut it s.heap h' → Q (some e.key) { s with heap:=h' }) : wpAny (model prog w) A (pyNext (.ref it)) Q E s:=by
 obtain ⟨o,ho,hc,hd⟩:=id hit; obtain ⟨od,hod,hcd,hdd⟩:=id hm.ex; unfold pyNext
 refine wpAny_bind (wpAny_attempt (wpAny_callSpecial?_slot (name:=Str.ofString "__next__") hit.typeIs F.slot_dict_keyiterator_next (wpAny_call_entry F.slot_dict_keyiterator_next hit.typeIs F.entry_dict_keyiterator_next ?_ (F.args_dict_keyiterator_next_1 _))))
 refine wpAny_bind (wpAny_pure (wpAny_bind (wpAny_bind ?_)))
 first | refine wpAny_bind (wpAny_typeNameOfWhole_keyiter hit.typeIs (wpAny_pure ?_)); skip | refine wpAny_bind (wpAny_typeNameOf_keyiter hit.typeIs (wpAny_pure ?_)); skip
 have hown:Builtin.Dict_items.ownsTuple "dict_keyiterator" = false:=(by decide)
 refine wpAny_bind (wpAny_fieldsOf ho hd ?_); simp only [hown,Bool.false_eq_true,if_false]
 show wpAny _ _ (if (Value.ref d == Value.none) = true then _ else _) _ _ s; rw [if_neg (show ¬ ((Value.ref d == Value.none) = true) from Bool.false_ne_true)]
 refine wpAny_bind (wpAny_pure (wpAny_bind (wpAny_dictEntries hod hdd ?_))); rw [if_neg (by simp)]
 refine wpAny_bind (wpAny_pure (wpAny_bind (wpAny_dictEpoch hod hdd ?_))); rw [if_neg (by simp)]; refine wpAny_pure ?_
 obtain ⟨hlt',ee⟩:=Array.getElem?_eq_some_iff.mp hx
 simp only [show ¬ ((i:Int) < 0) from (by omega),if_false,Int.toNat_natCast,Array.getElem?_eq_getElem hlt']; refine wpAny_bind ?_
 first | refine wpAny_bind (wpAny_typeNameOfWhole_keyiter hit.typeIs (wpAny_pure ?_)); skip | refine wpAny_bind (wpAny_typeNameOf_keyiter hit.typeIs (wpAny_pure ?_)); skip
 refine wpAny_bind (wpAny_isOneOf_keyiter hit.typeIs ?_); show wpAny _ _ (setField (.ref it) 1 (rawInt ((i:Int) + 1)) >>= _) _ _ s
 refine wpAny_bind (wpAny_setField ho hd (by simp) ?_)
 have hit':(s.heap.update it (Obj.mapFields (·.setIfInBounds 1 (rawInt ((i:Int) + 1))))).IsKeyIter it d (i + 1) es.size ep:=⟨_,Heap.get?_update_self _ ho (Obj.isFreed_of_fields (Obj.data_mapFields hd _)),(Obj.cls_mapFields ..).trans hc,by rw [Obj.data_mapFields hd]; simp [rawInt]⟩
 refine wpAny_bind (wpAny_holding (wpAny_bind (wpAny_isOneOf_keyiter (s:={ s with heap:=s.heap.update it (Obj.mapFields (·.setIfInBounds 1 (rawInt ((i:Int) + 1)))) }) hit'.typeIs ?_)))
 show wpAny _ _ (pure es[i].key) _ _ _; rw [ee]
 exact wpAny_pure (wpAny_pure ⟨_,rfl,wpAny_pure (hQ _ hit' (Heap.SameBut.update ..))⟩)
theorem rd_end {it:Addr} {i:Nat} {Q:Option Value → Shared → Prop} (hh:A.handled = none) (hit:s.heap.IsKeyIter it d i es.size ep) (hm:RDict s.heap d es ep) (hx:es.size ≤ i)
  (hQ:∀ h',Heap.ExtBut it s.heap h' → Q none { s with heap:=h' }) : wpAny (model prog w) A (pyNext (.ref it)) Q E s:=by
 obtain ⟨o,ho,hc,hd⟩:=id hit; obtain ⟨od,hod,hcd,hdd⟩:=id hm.ex; unfold pyNext
 refine wpAny_bind (wpAny_attempt (wpAny_callSpecial?_slot (name:=Str.ofString "__next__") hit.typeIs F.slot_dict_keyiterator_next (wpAny_call_entry F.slot_dict_keyiterator_next hit.typeIs F.entry_dict_keyiterator_next ?_ (F.args_dict_keyiterator_next_1 _))))
 refine wpAny_bind (wpAny_pure (wpAny_bind (wpAny_bind ?_)))
 first | refine wpAny_bind (wpAny_typeNameOfWhole_keyiter hit.typeIs (wpAny_pure ?_)); skip | refine wpAny_bind (wpAny_typeNameOf_keyiter hit.typeIs (wpAny_pure ?_)); skip
 have hown:Builtin.Dict_items.ownsTuple "dict_keyiterator" = false:=(by decide)
 refine wpAny_bind (wpAny_fieldsOf ho hd ?_); simp only [hown,Bool.false_eq_true,if_false]
 show wpAny _ _ (if (Value.ref d == Value.none) = true then _ else _) _ _ s; rw [if_neg (show ¬ ((Value.ref d == Value.none) = true) from Bool.false_ne_true)]
 refine wpAny_bind (wpAny_pure (wpAny_bind (wpAny_dictEntries hod hdd ?_))); rw [if_neg (by simp)]
 refine wpAny_bind (wpAny_pure (wpAny_bind (wpAny_dictEpoch hod hdd ?_))); rw [if_neg (by simp)]; refine wpAny_pure ?_
 simp only [show ¬ ((i:Int) < 0) from (by omega),if_false,Int.toNat_natCast,Array.getElem?_eq_none hx]; refine wpAny_bind ?_
 first | refine wpAny_bind (wpAny_typeNameOfWhole_keyiter hit.typeIs (wpAny_pure ?_)); skip | refine wpAny_bind (wpAny_typeNameOf_keyiter hit.typeIs (wpAny_pure ?_)); skip
 show wpAny _ _ (setField (.ref it) 0 .none >>= _) _ _ s; refine wpAny_bind (wpAny_setField ho hd (by simp) ?_)
 show wpAny _ _ (newExc (.type "StopIteration") [] >>= _) _ _ _; refine wpAny_bind ?_; simp only [newExc,newTuple]
 refine wpAny_bind (wpAny_newObj_type ?_ (by size_fits)); refine wpAny_bind (m:=firstArgMember _ _) (wpAny_of_eq (a:=Value.none) (by first | rfl | (simp only [firstArgMember]; rfl)) ?_)
 refine wpAny_newObj_type ?_ (by size_fits); simp only [raiseNew]; refine wpAny_bind (wpAny_handled ?_)
 rw [show A.in1.handled = none from hh]; refine wpAny_bind (wpAny_pure (wpAny_throw ?_)); refine wpAny_bind (wpAny_isInstance (T := "StopIteration") (b:=true) ⟨_,Heap.get?_push_size _ rfl,rfl⟩ isSubtype_stop ?_)
 exact wpAny_pure (hQ _ (((Heap.SameBut.update ..).extBut.push _).push _))
theorem rd_walks (hh:A.handled = none) (I d:Addr) (hne:d ≠ I) (es:Array DictEntry) (ep:Nat) :
  Walks prog w A I [I,d] [I] es.size (fun i v=>∃ e,es[i]? = some e ∧ v = e.key) (fun i h=>h.IsKeyIter I d i es.size ep ∧ RDict h d es ep) where
 sub:=fun b hb=>by simp at hb; simp [hb]
 frame:=fun _ _ _ st hk=>⟨st.1.at fun o e=>hk I (by simp) o e,st.2.at fun o e=>hk d (by simp) o e⟩
 item:=fun i s Q E hi st hQ=>by
  have hx:es[i]? = some es[i]:=by simp [hi]
  exact rd_next st.1 st.2 hx fun h' hit' hs'=>hQ _ h' s.toks ⟨_,hx,rfl⟩ ⟨hit',st.2.at fun o e=>hs'.extBut _ o hne e⟩ fun b o hb e=>hs'.extBut b o (fun h=>hb (by simp [h])) e
 done:=fun s Q E st hQ=>rd_end hh st.1 st.2 (Nat.le_refl _) fun h' he'=>hQ h' s.toks fun b o hb e=>he' b o (fun h=>hb (by simp [h])) e
 self:=fun _ _ _ _ st hQ=>wpAny_pyIter_keyiter st.1 hQ
end
end Wr
namespace L2
open PySem PySem.Spec PyProof.Rows
section
variable {prog:Program} {w:World} {A:Around} {E:Value → Shared → Prop} {s:Shared}
theorem zex {c d:Addr} {T:String} {es:Array DictEntry} {ep:Nat} {xs:List V} {kf:V → List Int} {Q:Value → Shared → Prop} (hh:A.handled = none) (hc:c < s.heap.objs.size) (hm:Wr.RDict s.heap d es ep)
  (hT:∀ h':Heap,(∀ b o,s.heap.get? b = some o → h'.get? b = some o) → ({ s with heap:=h' } : Shared).TypeIs (.ref c) T) (h1:(Value.type T == Value.type "list") = false) (h2:(Value.type T == Value.type "tuple") = false)
  (hit:∀ (h':Heap) (Q':Value → Shared → Prop),(∀ b o,s.heap.get? b = some o → h'.get? b = some o) →
   (∀ h'',h''.IsKeyIter h'.objs.size d 0 es.size ep → (∀ b o,h'.get? b = some o → h''.get? b = some o) → Q' (.ref h'.objs.size) { s with heap:=h'' }) → wpAny (model prog w) A.in1.in1 (pyIter (.ref c)) Q' E { s with heap:=h' })
  (hint:∀ (h':Heap) (Q':Bool → Shared → Prop),(∀ b o,s.heap.get? b = some o → h'.get? b = some o) → Q' false { s with heap:=h' } → wpAny (model prog w) A.in1.in1 (Builtin.List.listLengthHint (.ref c)) Q' E { s with heap:=h' })
  (r:Vals xs (es.toList.map (·.key))) (K:KeysAt s.heap (es.toList.map (·.key)) (xs.map kf)) (h64:es.size < 64)
  (h:∀ (D:Addr) (h':Heap) (ys:List V) (ws:List Value) (e tk:Nat),(∀ b o,s.heap.get? b = some o → h'.get? b = some o) → s.heap.objs.size ≤ D → h'.get? D = some (seqObj "list" ws.toArray e) → Vals ys ws → ys.Perm xs → za0 kf ys → Q (.ref D) { s with heap:=h',toks:=tk }) :
  wpAny (model prog w) A (call (.builtin "sorted") [.ref c]) Q E s:=by
 obtain ⟨od,hod,_,_⟩:=id hm.ex
 have hd:d < s.heap.objs.size:=Heap.lt_size hod
 refine Calls.call_function_entry kind_sorted plain_sorted entry_sorted (args_sorted1 _) ?_
 unfold Builtin.«sorted»
 refine wpAny_bind (m:=checkCount "sorted" 1 1 _) (wpAny_pure (wpAny_bind ?_))
 have hz:es.size ≤ sizeLine:=zcb h64
 refine Wr.collect_byD (A:=A.in1) (T:=T) (n:=es.size) (P:=fun i v=>∃ e,es[i]? = some e ∧ v = e.key) (St:=fun it i h=>h.IsKeyIter it d i es.size ep ∧ Wr.RDict h d es ep) hc hd hT h1 h2
  (fun h' Q' k hge hq=>hit h' Q' k fun h'' st k2=>hq h'.objs.size h'' (Nat.le_refl _) k2 ⟨st,hm.at fun o e=>k2 _ _ (k _ _ e)⟩) hint (fun it hne=>Wr.rd_walks (A:=A.in1.in1) (by simpa using hh) it d hne es ep) hz fun h3 tk acc k1 hsz htk items=>?_
 have ea:acc.toList = es.toList.map (·.key):=by
  apply List.ext_getElem
  ·rw [Array.length_toList,List.length_map,Array.length_toList,items.1]
  ·intro i hi hi2
   rw [Array.length_toList] at hi
   obtain ⟨e,e1,e2⟩:=items.2 i acc[i] (by simp [hi])
   obtain ⟨q1,q2⟩:=Array.getElem?_eq_some_iff.mp e1
   simp [q2,e2]
 rw [ea]
 have l64:(es.toList.map (·.key)).length < 64:=by rw [List.length_map,Array.length_toList]; exact h64
 refine wpAny_bind (wpAny_newList ?_ (zcb l64))
 have hoL:(h3.push (seqObj "list" (es.toList.map (·.key)).toArray 0)).get? h3.objs.size = some (seqObj "list" (es.toList.map (·.key)).toArray 0):=Heap.get?_push_size _ rfl
 have K3:KeysAt (h3.push (seqObj "list" (es.toList.map (·.key)).toArray 0)) (es.toList.map (·.key)) (xs.map kf):=Paired.mapP K fun v k x=>x.keeps fun b o hb _=>Heap.get?_push_of_some _ (k1 b o hb)
 refine wpAny_bind (wpAny_holding (wpAny_call_entry (s:={ s with heap:=h3.push (seqObj "list" (es.toList.map (·.key)).toArray 0),toks:=tk }) slot_list_sort ⟨_,hoL,rfl⟩ entry_list_sort (zcc hoL r K3 l64 fun ys ws v1 v2 v3=>⟨_,rfl,?_⟩) (args_list_sort _)))
 obtain ⟨e,he⟩:=sortedHeap_at (out:=ws.toArray) hoL
 refine wpAny_pure ⟨_,rfl,h h3.objs.size _ ys ws e tk (fun b ob q=>?_) (Nat.le_of_lt hsz) he v1 v2 v3⟩
 have hb:b < h3.objs.size:=Heap.lt_size (k1 b ob q)
 rw [sortedHeap_old (Nat.ne_of_lt hb) (by rw [Heap.size_push]; exact Nat.lt_succ_of_lt hb)]
 exact Heap.get?_push_of_some _ (k1 b ob q)
end
end L2
namespace Wr
open PySem PySem.Spec PyProof.Rows
section
variable {prog:Program} {w:World} {K:Type} [DecidableEq K] {knd:HeapKind prog w K} {A:Around} {E:Value → Shared → Prop} {s:Shared}
theorem setDefault_heap {d a:Addr} {xs:List (K × Addr × Value)} {k:K} {v:Value} {Q:Value → Shared → Prop} (hu:knd.room A) (hkey:knd.is s.heap k a) (hm:s.heap.DictOfH knd d xs)
  (h1:∀ p,atKey xs k = some p → Q p.2 { s with toks:=s.toks + knd.draws k })
  (h2:atKey xs k = none → ∀ h',h'.DictOfH knd d (storedH xs k a v) → Heap.SameBut d s.heap h' → Q v { s with heap:=h',toks:=s.toks + knd.draws k })
  (hsz:xs.length ≤ sizeLine) : wpAny (model prog w) A (dictSetDefault d (.ref a) v) Q E s:=by
 obtain ⟨o,es,ep,ho,hc,hd,he,his,hn⟩:=hm; unfold dictSetDefault
 try with_reducible refine wpAny_holding ?_; skip
 refine wpAny_bind (knd.pyHash hu hkey (wpAny_bind (wpAny_dictFind_heap (s:={ s with toks:=s.toks + knd.draws k }) hu hkey ho hd he his hn ?_ ?_)))
 ·intro hno; have hnot:k ∉ xs.map (·.1):=not_mem_keys_of_get hno; have hat:=atKey_none_of_get hno; have q2:=h2 hat; rw [storedH_new hat] at q2
  refine wpAny_bind (wpAny_rule (wpAny_bind (wpAny_updateDictKeys (hz:=by have e:=size_of_entries he; omega) (s:={ s with toks:=s.toks + knd.draws k }) ho hd (wpAny_pure (q2 _ ⟨_,_,ep + 1,Heap.get?_update_self _ ho (Obj.isFreed_of_dict (Obj.data_mapDictKeys hd _)),hc.mapDictKeys _,Obj.data_mapDictKeys hd _,?_,?_,?_⟩ (Heap.SameBut.update ..))))))
  ·simp [he,entryOfKey]
  ·intro x hx
   rcases List.mem_append.mp hx with hx | hx
   ·exact knd.keeps (his x hx) ho hd (Heap.SameBut.update ..)
   ·rw [List.mem_singleton.mp hx]; exact knd.keeps hkey ho hd (Heap.SameBut.update ..)
  ·rw [List.map_append,List.nodup_append]
   refine ⟨hn,(by simp),fun x hx y hy=>?_⟩
   have hy':y = k:=by simpa using hy
   subst hy'; exact fun e=>hnot (e ▸ hx)
 ·intro j p hj
  refine wpAny_bind (wpAny_dictEntries (s:={ s with toks:=s.toks + knd.draws k }) ho hd ?_); rw [entry_at he j,hj]
  exact wpAny_bind (wpAny_rule (wpAny_pure (h1 p (atKey_of_get hn hj))))
end
end Wr
namespace L2
open PySem PySem.Spec PyProof.Rows
section
variable {X:Cx} {pins:List (Addr × Obj)} {σ:St} {H:Hp} {s:Shared}
def zje:V → List V → Hp → VK → Prop:=fun x xs H Q=>∃ (d b:Addr) (z:V) (kvs:List (List Key × V)) (k:List Key),x = .ref d ∧ xs = [.ref b,z] ∧ H d = some (.dT kvs) ∧ H b = some (.tup (k.map kV)) ∧ kvs.length < sizeLine ∧
 (match valV kvs k with | some v=>Q v H | none=>Q z (upd H d (.dT (putK kvs k z))))
theorem ziv (hu:X.A.units + 1 < cLine) : MtR X "dict.setdefault" zje:=by
 intro pins s σ H x xs v us Q I rx r ⟨d,b,z,kvs,k,e1,e2,e,eb,hl,q⟩
 subst e1 e2
 cases rx
 obtain ⟨u1,u2,rfl,r1,r2⟩:=vals2 r
 cases r1
 obtain ⟨hz,hd,ys,rel,dd⟩:=znb I.hok e
 have hT:s.TypeIs (.ref d) "dict" := dd.typeIs
 have hle:(putK kvs k z).length ≤ sizeLine:=by have:=zcH kvs k z; omega
 refine wpAny_call_entry PySem.F.slot_dict_setdefault hT PySem.F.entry_dict_setdefault ?_ (PySem.F.args_dict_setdefault_3 _ _ _)
 unfold Builtin.«dict.setdefault»; refine wpAny_bind ?_; unfold Builtin.Dict.keyAndDefault
 refine wpAny_bind (wpAny_notOrdered_dict hT ?_); show wpAny _ _ (pure (d,Value.ref b,some u2)) _ _ s
 refine wpAny_pure ?_; show wpAny _ _ (if (d == sysModules) = true then _ else (dictSetDefault d (.ref b) u2 >>= _)) _ _ s
 rw [if_neg (by rw [hd]; exact Bool.false_ne_true)]
 refine wpAny_bind (Wr.setDefault_heap (tupleKind_room_in1 hu) (zhn I.hok eb) dd (fun p hp=>?_) (fun hp h' dd' hs=>?_) (by rw [← Paired.length rel]; exact hz))
 ·refine wpAny_pure ⟨_,rfl,?_⟩
  have rv:=rel.val k
  rw [hp] at rv
  cases ev:valV kvs k with
  | none=>rw [ev] at rv; exact False.elim (by cases rv)
  | some v' =>
   rw [ev] at q rv
   exact ⟨v',H,I.tok _,rv,q⟩
 ·refine wpAny_pure ⟨_,rfl,?_⟩
  have rv:=rel.val k
  rw [hp] at rv
  cases ev:valV kvs k with
  | some v'=>rw [ev] at rv; exact False.elim (by cases rv)
  | none =>
   rw [ev] at q
   obtain ⟨qo,es,ep,hq,h2,h3,h4,_,h5⟩:=dd'
   refine ⟨z,_,zfM (ob:=.dT (putK kvs k z)) I (by rw [e]; exact True.intro) hs ⟨qo,hq⟩ ⟨hle,hd,_,(rel.put k eb r2).keeps fun c ys ec=>?_,qo,es,ep,hq,h2,h3,h4,h5⟩,r2,q⟩
   rw [zai (zbt ec e (fun z=>nomatch z))]
   exact ec
def vwO (v d:Addr) : HO:=.ext fun h=>PySem.W.KdlKeysView h v d
end
end L2
namespace L2
open PySem PySem.Spec PyProof.Rows
def intV:V → Int
 | .int i=>i
 | _=>0
def kfI (H:Hp) : V → List Int
 | .ref t=>(match H t with
  | some (.tup vs)=>vs.map intV
  | _=>[])
 | _=>[]
theorem zhB {H:Hp} {y:V} {k:List Int} (h:RowAt H y k) : kfI H y = k:=by
 obtain ⟨t,rfl,e⟩:=h
 show (match H t with | some (.tup vs)=>vs.map intV | _=>[]) = k
 rw [e]
 show (k.map V.int).map intV = k
 rw [List.map_map]
 have:intV ∘ V.int = id:=rfl
 rw [this,List.map_id]
theorem zdl (k:List Int) : (k.map Sum.inl:List Key).map kV = k.map V.int:=by rw [List.map_map]; rfl
section
variable {X:Cx} {pins:List (Addr × Obj)} {σ:St} {H:Hp} {s:Shared}
def zjl (H:Hp) (c d:Addr) : Prop:=c = d ∨ H c = some (vwO c d)
structure TDict (H:Hp) (d:Addr) (kvs:List (List Key × V)) (ks:List (List Int)) : Prop where
 at':Rd H d (.dT kvs)
 keys:kvs.map (·.1) = ks.map (·.map Sum.inl)
 some':∀ k ∈ ks,k ≠ []
theorem zi3 {d:Addr} {kvs:List (List Key × V)} {ks:List (List Int)} (I:Inv X pins σ H s) (T:TDict H d kvs ks) :
  ∃ (es:Array DictEntry) (ep:Nat) (xs:List V),Wr.RDict s.heap d es ep ∧ (d == sysModules) = false ∧ Vals xs (es.toList.map (·.key)) ∧ Paired (RowAt H) xs ks ∧ xs.map (kfI H) = ks ∧ KeysAt s.heap (es.toList.map (·.key)) (xs.map (kfI H)) ∧ es.size = kvs.length:=by
 obtain ⟨z,hd,xs,rel,o,es,ep,ho,hc,hdat,he,h6,h7⟩:=zkV I.hok T.at'
 have ek:es.toList.map (·.key) = xs.map fun x=>Value.ref x.2.1:=by
  rw [he,List.map_map]; rfl
 have pr:Paired (RowAt H) (xs.map fun x=>V.ref x.2.1) ks:=by
  have kk:=T.keys
  clear ek he T z h6 h7
  induction rel generalizing ks with
  | nil =>
   cases ks with
   | nil=>exact .nil
   | cons _ _=>cases kk
  | cons r _ ih =>
   cases ks with
   | nil=>cases kk
   | cons k ks =>
    simp only [List.map_cons,List.cons.injEq] at kk
    refine .cons ?_ (ih kk.2)
    obtain ⟨r1,r2,r3⟩:=r
    rw [kk.1,zdl] at r2
    exact ⟨_,rfl,r2⟩
 have vals:∀ l:List (List Key × Addr × Value),Vals (l.map fun x=>V.ref x.2.1) (l.map fun x=>Value.ref x.2.1):=fun l=>by
  induction l with
  | nil=>exact .nil
  | cons _ _ ih=>exact .cons rfl ih
 have em:∀ {ys:List V} {ks:List (List Int)},Paired (RowAt H) ys ks → ys.map (kfI H) = ks:=by
  intro ys ks p
  induction p with
  | nil=>rfl
  | cons r _ ih=>rw [List.map_cons,zhB r,ih]
 have keys:∀ {l:List (List Key × Addr × Value)} {ks:List (List Int)},Paired (RowAt H) (l.map fun x=>V.ref x.2.1) ks → (∀ k ∈ ks,k ≠ []) → KeysAt s.heap (l.map fun x=>Value.ref x.2.1) ks:=by
  intro l
  induction l with
  | nil=>intro ks p _; cases p; exact .nil
  | cons x l ih =>
   intro ks p ne
   cases p with
   | cons r t =>
    obtain ⟨t',e1,e2⟩:=r
    cases e1
    exact .cons (ziU I e2 (ne _ List.mem_cons_self)) (ih t fun k hk=>ne k (List.mem_cons_of_mem _ hk))
 refine ⟨es,ep,xs.map fun x=>V.ref x.2.1,⟨o,ho,hc,hdat⟩,hd,by rw [ek]; exact vals xs,pr,em pr,by rw [ek,em pr]; exact keys pr T.some',?_⟩
 have:=congrArg List.length he
 rw [Array.length_toList,List.length_map] at this
 rw [this,← Paired.length rel]
def zlt:List V → Hp → VK → Prop:=fun xs H Q=>∃ (c d:Addr) (kvs:List (List Key × V)) (ks:List (List Int)),xs = [.ref c] ∧ TDict H d kvs ks ∧ zjl H c d ∧ kvs.length < 64 ∧
 ∀ (D:Addr) (ys:List V) (ks':List (List Int)),H D = none → Paired (RowAt H) ys ks' → ks'.Perm ks → (ks'.Pairwise fun a b=>lexI b a = false) → Q (.ref D) (upd H D (.lst ys))
theorem zeR (hc:X.calm = true) : zcZ X (.builtin "sorted") zlt:=by
 intro pins s σ H xs us Q I r ⟨c,d,kvs,ks,e,T,kd,h64,q⟩
 subst e
 obtain ⟨u,rfl,ru⟩:=Vals.one r
 cases ru
 obtain ⟨es,ep,xs,hm,hd,rv,pr,em,K,hsz⟩:=zi3 I T
 have fin:∀ (D:Addr) (h':Heap) (ys:List V) (ws:List Value) (e tk:Nat),(∀ b o,s.heap.get? b = some o → h'.get? b = some o) → s.heap.objs.size ≤ D → h'.get? D = some (seqObj "list" ws.toArray e) → Vals ys ws → ys.Perm xs → za0 (kfI H) ys → EP X pins σ Q (.ref D) { s with heap:=h',toks:=tk }:=by
  intro D h' ys ws e tk k hD hg v1 v2 v3
  have row:∀ y ∈ ys,RowAt H y (kfI H y):=fun y hy=>by
   have go:∀ {xs:List V} {ks:List (List Int)},Paired (RowAt H) xs ks → y ∈ xs → RowAt H y (kfI H y):=by
    intro xs ks p
    induction p with
    | nil=>intro z; cases z
    | cons r _ ih =>
     intro z
     rcases List.mem_cons.mp z with e | z
     ·subst e; rw [zhB r]; exact r
     ·exact ih z
   exact go pr (v2.mem_iff.mp hy)
  have pys:∀ l:List V,(∀ y ∈ l,RowAt H y (kfI H y)) → Paired (RowAt H) l (l.map (kfI H)):=fun l=>by
   induction l with
   | nil=>intro _; exact .nil
   | cons y l ih=>intro h; exact .cons (h y List.mem_cons_self) (ih fun z hz=>h z (List.mem_cons_of_mem _ hz))
  have hl:ys.length < 64:=by
   rw [v2.length_eq]
   have:=Vals.length rv
   rw [List.length_map] at this
   have e2:es.toList.length = es.size:=Array.length_toList
   omega
  refine ⟨.ref D,_,I.laid (a:=D) (o:=.lst ys) (t':=tk) (fun b u z=>k b u z) hD ⟨zcb hl,ws,e,v1,hg⟩,rfl,q D ys (ys.map (kfI H)) (I.hok.fresh hD) (pys ys row) ?_ (List.pairwise_map.mpr v3)⟩
  rw [← em]
  exact v2.map _
 have hlt:∀ b o,s.heap.get? b = some o → b < s.heap.objs.size:=fun b o e=>Heap.lt_size e
 rcases kd with rfl | hv
 ·obtain ⟨o,ho,_⟩:=id hm.ex
  refine zex (T := "dict") (zlr I hc) (hlt _ _ ho) hm (fun h' k=>(hm.at fun o e=>k _ _ e:Wr.RDict ({ s with heap:=h' } : Shared).heap c es ep).typeIs) (by decide) (by decide) (fun h' Q' k hq=>?_) (fun h' Q' k hq=>?_) rv K (by omega) fin
  ·exact Wr.rd_iter (s:={ s with heap:=h' }) hd (hm.at fun o e=>k _ _ e) fun h'' st k2=>hq h'' st k2
  ·exact PySem.W.kdl_hint_dict (hm.at fun o e=>k _ _ e:Wr.RDict ({ s with heap:=h' } : Shared).heap c es ep).typeIs hq
 ·have hview:PySem.W.KdlKeysView s.heap c d:=(I.hok c _ hv).1
  obtain ⟨ov,hov,hcv,hdv⟩:=id hview
  have hv':∀ h':Heap,(∀ b o,s.heap.get? b = some o → h'.get? b = some o) → PySem.W.KdlKeysView h' c d:=fun h' k=>⟨ov,k _ _ hov,hcv,hdv⟩
  refine zex (T := "dict_keys") (zlr I hc) (hlt _ _ hov) hm (fun h' k=>(hv' h' k:PySem.W.KdlKeysView ({ s with heap:=h' } : Shared).heap c d).typeIs) (by decide) (by decide) (fun h' Q' k hq=>?_) (fun h' Q' k hq=>?_) rv K (by omega) fin
  ·exact Wr.rd_iterK (s:={ s with heap:=h' }) (hv' h' k) (hm.at fun o e=>k _ _ e) fun h'' st k2=>hq h'' st k2
  ·exact PySem.W.kdl_hint_keys (hv' h' k:PySem.W.KdlKeysView ({ s with heap:=h' } : Shared).heap c d).typeIs hq
end
end L2
namespace L2
open PySem PySem.Spec PyProof.Rows
section
variable {X:Cx} {pins:List (Addr × Obj)} {σ:St} {H:Hp} {s:Shared}
theorem Inv.freeze {d:Addr} {kvs:List (List Key × V)} (I:Inv X pins σ H s) (h:H d = some (.dT kvs)) : ∃ o,s.heap.get? d = some o ∧ Inv X pins σ (upd H d (.frz o (.dT kvs))) s:=by
 obtain ⟨z,hd,xs,rel,o,es,ep,ho,r⟩:=I.hok d _ h
 refine ⟨o,ho,?_⟩
 exact I.write (x:=d) (e:=d) (o:=.frz o (.dT kvs)) (h':=s.heap) (t':=s.toks) (by rw [h]; exact True.intro) (.inl rfl) (fun b u _ q=>q) ⟨o,ho⟩
  ⟨ho,z,hd,xs,Paired.mapP rel fun p q ⟨a,b,c⟩=>⟨a,by rw [zai (zbt b h (fun z=>nomatch z))]; exact b,c⟩,o,es,ep,ho,r⟩
def Itk (o:Obj) (d:Addr) (kvs:List (List Key × V)) : It :=
 ⟨fun i H=>H d = some (.frz o (.dT kvs)) ∧ i < kvs.length,fun i H v H'=>H' = H ∧ ∀ ks:List (List Int),kvs.map (·.1) = ks.map (·.map Sum.inl) → ∃ k,ks[i]? = some k ∧ RowAt H v k,fun i H=>H d = some (.frz o (.dT kvs)) ∧ kvs.length ≤ i⟩
theorem zgU {d:Addr} {o:Obj} {kvs:List (List Key × V)} (I:Inv X pins σ H s) (h:H d = some (.frz o (.dT kvs))) :
  ∃ (es:Array DictEntry) (ep:Nat) (xs:List (List Key × Addr × Value)),s.heap.get? d = some o ∧ o.ExactDict ∧ o.data = .dict es ep ∧ (d == sysModules) = false ∧ KT H kvs xs ∧ es.toList = xs.map (entryOfKey (tupleKind (za3 X.prog X.w))) ∧ es.size = kvs.length:=by
 obtain ⟨ho,z,hd,xs,rel,o',es,ep,ho',ex,dt,he,nd⟩:=I.hok d _ h
 rw [ho] at ho'
 cases ho'
 have e2:=congrArg List.length he
 rw [Array.length_toList,List.length_map] at e2
 exact ⟨es,ep,xs,ho,ex,dt,hd,rel,he,by rw [e2,← Paired.length rel]⟩
theorem zjy {P:Program} {w:World} {K:PySem.W.Frag} {tg:Expr} {o:Obj} {es:Array DictEntry} {ep:Nat} {kvs:List (List Key × V)} (d it:Addr) (hne:d ≠ it) (hx:o.ExactDict) (hdt:o.data = .dict es ep) :
  Turn P w K tg (Itk o d kvs) [it] it (fun i h=>h.IsKeyIter it d i es.size ep) where
 mem:=by simp
 obj:=fun i h st b hb=>by
  have e:b = it:=by simpa using hb
  subst e
  obtain ⟨o,e,c,d⟩:=st
  exact ⟨o,e,fun v z=>by rw [d] at z; cases z⟩
 keep:=fun i h h' st k=>st.at fun o e=>k it (by simp) o e
 item:=by
  intro X hP hw hK hc i pins s σ H E I hf st hg
  subst hP hw hK
  obtain ⟨hH,hi⟩:=hg
  obtain ⟨es',ep',xs,ho,_,dt,_,rel,he,hsz⟩:=zgU I hH
  rw [hdt] at dt
  cases dt
  obtain ⟨f0,f1,f2,f3,f4,f5⟩:=hf it (by simp)
  have hx':es[i]? = some es[i]:=by simp [hsz,hi]
  refine Wr.rd_next st ⟨o,ho,hx,hdt⟩ hx' fun h' st' sb=>?_
  have I1:Inv X pins σ H { s with heap:=h' }:=I.turned (t':=s.toks) (fun b o hb e=>(sb.2 b hb).trans e) f0 f1 f3 f4 f5
  obtain ⟨oi,e,c,dd⟩:=id st'
  have lx:i < xs.length:=by rw [← Paired.length rel]; exact hi
  have ekey:es[i].key = .ref xs[i].2.1:=by
   have q:=entry_at he i
   rw [hx'] at q
   have q2:xs[i]? = some xs[i]:=by simp [lx]
   rw [q2] at q
   rw [Option.some.inj q]
   rfl
  refine ⟨_,rfl,zj0 (s:={ s with heap:=h' }) e c dd (by decide) ⟨.ref xs[i].2.1,H,I1,by rw [ekey]; rfl,⟨rfl,fun ks hk=>?_⟩,st',fun b hb=>(hf b hb).1⟩⟩
  have lk:i < ks.length:=by
   have:=congrArg List.length hk
   rw [List.length_map,List.length_map] at this
   omega
  have hr:(fun (p:List Key × V) (q:List Key × Addr × Value)=>p.1 = q.1 ∧ H q.2.1 = some (.tup (p.1.map kV)) ∧ RelV p.2 q.2.2) (kvs.getD i ([],.non)) (xs.getD i ([],0,Value.none)):=zbL rel i _ _ hi
  have g1:kvs.getD i ([],.non) = kvs[i]:=by simp [hi]
  have g2:xs.getD i ([],0,Value.none) = xs[i]:=by simp [lx]
  rw [g1,g2] at hr
  have hk1:kvs[i].1 = ks[i].map Sum.inl:=by
   have h1:(kvs.map (·.1))[i]? = some kvs[i].1:=by simp [hi]
   rw [hk] at h1
   have h2:(ks.map (·.map Sum.inl) : List (List Key))[i]? = some (ks[i].map Sum.inl):=by simp [lk]
   rw [h2] at h1
   exact (Option.some.inj h1).symm
  refine ⟨ks[i],by simp [lk],xs[i].2.1,rfl,?_⟩
  have:=hr.2.1
  rw [hk1,zdl] at this
  exact this
 done:=by
  intro X hP hw hK hc i pins s σ H E I hf st hg
  subst hP hw hK
  obtain ⟨hH,hi⟩:=hg
  obtain ⟨es',ep',xs,ho,_,dt,_,rel,he,hsz⟩:=zgU I hH
  rw [hdt] at dt
  cases dt
  obtain ⟨f0,f1,f2,f3,f4,f5⟩:=hf it (by simp)
  exact Wr.rd_end (I.ok.hd hc) st ⟨o,ho,hx,hdt⟩ (by rw [hsz]; exact hi) fun h' eb=>⟨rfl,I.turned (t':=s.toks) (fun b o hb e=>eb b o hb e) f0 f1 f3 f4 f5⟩
 self:=fun _ _ _ _ _ st h=>wpAny_pyIter_keyiter st h
def zn9 (te:TE) : TI:=fun σ H R=>te σ H fun x H1=>∃ (c d:Addr) (kvs:List (List Key × V)),x = .ref c ∧ zjl H1 c d ∧
 ((H1 d = some (.dT kvs) ∧ ∀ o,R (Itk o d kvs) (upd H1 d (.frz o (.dT kvs)))) ∨ ∃ o,H1 d = some (.frz o (.dT kvs)) ∧ R (Itk o d kvs) H1)
theorem zl8 {tg e:Expr} {te:TE} (he:PE X e te) : PI X tg e (zn9 te):=by
 intro pins s σ H R I h
 refine thn (he pins s σ H _ I h) fun v s1 ⟨x,H1,I1,r1,q1⟩=>?_
 obtain ⟨c,d,kvs,e,kd,q⟩:=q1
 subst e
 cases r1
 have kd':c = d ∨ PySem.W.KdlKeysView s1.heap c d:=by
  rcases kd with z | z
  ·exact .inl z
  ·have y:PySem.W.KdlKeysView s1.heap c d:=(I1.hok c _ z).1
   exact .inr y
 have core:∀ (o:Obj) (H2:Hp),Inv X pins σ H2 s1 → H2 d = some (.frz o (.dT kvs)) → R (Itk o d kvs) H2 → wpAny (model X.prog X.w) X.A (pyIter (.ref c)) (PIE X pins σ tg R) X.xe s1:=by
  intro o H2 I2 hH qr
  obtain ⟨es,ep,xs,ho,ex,dt,hd,rel,he,hsz⟩:=zgU I2 hH
  have ne:d ≠ s1.heap.objs.size:=Nat.ne_of_lt (Heap.lt_size ho)
  have fin:∀ h',h'.IsKeyIter s1.heap.objs.size d 0 es.size ep → (∀ b o,s1.heap.get? b = some o → h'.get? b = some o) → PIE X pins σ tg R (.ref s1.heap.objs.size) { s1 with heap:=h' }:=fun h' st k=>by
   refine ⟨s1.heap.objs.size,[s1.heap.objs.size],_,_,H2,rfl,I2.kept (t':=s1.toks) k,zjy d _ ne ex dt,st,fun b hb=>?_,qr⟩
   have e:b = s1.heap.objs.size:=by simpa using hb
   subst e
   exact I2.fpOk (Nat.le_refl _) (I2.hok.fresh (Nat.le_refl _))
  rcases kd' with rfl | hv
  ·exact Wr.rd_iter hd ⟨o,ho,ex,dt⟩ fin
  ·exact Wr.rd_iterK hv ⟨o,ho,ex,dt⟩ fin
 rcases q with ⟨hH,q⟩ | ⟨o,hH,q⟩
 ·obtain ⟨o,ho,I2⟩:=I1.freeze hH
  exact core o _ I2 zaa (q o)
 ·exact core o H1 I1 hH q
end
section
variable {X:Cx} {e o:Expr} {te to:TE} {t:TA} {p pos apos cpos:Pos} {k:Nat} {target:Expr}
theorem zhz {e1 e2:Expr} (hr:Room k X.A) (ho:JE X o to) (ha:JA X [e1,e2] t) (hbase:attributeBase o "setdefault" X.env (eval o X.env) = eval o X.env:=by rfl) (hline:(apos.endLine == cpos.line) = true:=by rfl) :
  JE X (.Call (.Attribute o "setdefault" apos) [e1,e2] [] cpos) (tBM X.K "dict" zje to t) :=
 ⟨zkq PySem.F.plainAttrs_dict PySem.F.slot_dict_setdefault PySem.F.type_dict_setdefault (ziv (by have:=hr.units; omega)) ho.h ha.h hbase (by rw [ha.hd.star,(Nsts.star ha.rs _)]; rfl) hline (ha.hd.star _ _) (ha.rs.no _ _)⟩
theorem zlL (hc:X.calm = true:=by rfl) : JC X (.builtin "sorted") zlt:=⟨zeR hc⟩
theorem zm4 (h:JE X e te) : JI X target e (zn9 te):=⟨zl8 h.h⟩
theorem zjX (hr:Room k X.A) (ho:JE X o to) (hi:JE X e te) (hs:NoSl e:=by intro _ _; rfl) : JE X (.Subscript o e pos) (zmf to te):=⟨zmu (by have:=hr.units; omega) ho.h hi.h hs⟩
theorem ziL:JE X (.Dict [] [] pos) zlD:=⟨zj5⟩
end
end L2
namespace Wr
end Wr
namespace Wr
open PySem SetTable PyProof.Rows
section
variable {prog:Program} {w:World} {A:Around} {E:Value → Shared → Prop}
end
section
variable {prog:Program} {w:World} {A:Around} {E:Value → Shared → Prop} {s:Shared}
end
end Wr
namespace L2
open PySem PySem.Spec PyProof.Rows
section
variable {X:Cx}
end
def dRow (r:List Int) : PyData:=.tuple (r.map PyData.int)
theorem ziq {K:PySem.W.Frag} {H:Hp} : ∀ ns:List Int,DenAll K H (ns.map V.int) (ns.map PyData.int)
 | []=>.nil
 | n :: ns=>.cons (.int n) (ziq ns)
theorem RowAt.den {K:PySem.W.Frag} {H:Hp} {v:V} {r:List Int} (h:RowAt H v r) : Den K H v (dRow r):=by
 obtain ⟨t,rfl,e⟩:=h
 exact .tup (SqT.of e) (ziq r)
theorem zfA {K:PySem.W.Frag} {H:Hp} : ∀ {vs:List V} {rs:List (List Int)},Paired (RowAt H) vs rs → DenAll K H vs (rs.map dRow)
 | _,_,.nil=>.nil
 | _,_,.cons r t=>.cons r.den (zfA t)
theorem zc7:∀ (l m:List Int),PyData.eqvAll (l.map PyData.int) (m.map PyData.int) = decide (l = m)
 | [],[]=>by simp [PyData.eqvAll]
 | [],_ :: _=>by simp [PyData.eqvAll]
 | _ :: _,[]=>by simp [PyData.eqvAll]
 | x :: l,y :: m=>by
  simp only [List.map_cons,PyData.eqvAll,zc7 l m,PyData.eqv]
  by_cases h1:x = y <;> by_cases h3:l = m <;> simp [h1,h3]
theorem zhE:∀ (l m:List (List Int)),PyData.eqvAll (l.map dRow) (m.map dRow) = decide (l = m)
 | [],[]=>by simp [PyData.eqvAll]
 | [],_ :: _=>by simp [PyData.eqvAll]
 | _ :: _,[]=>by simp [PyData.eqvAll]
 | x :: l,y :: m=>by
  simp only [List.map_cons,PyData.eqvAll,zhE l m,dRow,PyData.eqv,zc7]
  by_cases h1:x = y <;> by_cases h3:l = m <;> simp [h1,h3]
theorem zjV (l m:List (List Int)) : PyData.eqv (.list (l.map dRow)) (.list (m.map dRow)) = decide (l = m):=by rw [PyData.eqv]; exact zhE l m
theorem zcw:∀ ns:List Int,PyData.canLayAll0 (ns.map PyData.int) = true ∧ PyData.depthAll (ns.map PyData.int) = 0
 | []=>by simp [PyData.canLayAll0,PyData.depthAll]
 | n :: ns=>by
  have ih:=zcw ns
  simp [PyData.canLayAll0,PyData.depthAll,PyData.canLay0,PyData.depth,ih.1,ih.2]
theorem zfg:∀ rs:List (List Int),PyData.canLayAll0 (rs.map dRow) = true ∧ PyData.depthAll (rs.map dRow) ≤ 1
 | []=>by simp [PyData.canLayAll0,PyData.depthAll]
 | r :: rs=>by
  have ih:=zfg rs
  have e:=zcw r
  simp only [List.map_cons,PyData.canLayAll0,PyData.depthAll,dRow,PyData.canLay0,PyData.depth,e.1,e.2,ih.1]
  exact ⟨by simp,by have:=ih.2; omega⟩
theorem zet (rs:List (List Int)) : SeqAt.shaped (.list (rs.map dRow)) = true:=by
 have e:=zfg rs
 unfold SeqAt.shaped
 simp only [PyData.canLay0,PyData.depth,e.1,Bool.true_and]
 exact decide_eq_true (by have:=e.2; omega)
end L2
namespace Wr
def bnds (l:List Stt) : List Int:=l.flatMap fun s=>s.1.toList ++ s.2.toList
def fe:List Stt → Bool
 | (none,_) :: _=>true
 | _=>false
def par (s:Bool) (bs:List Int) (m:Int) : Bool:=bs.foldl (fun x b=>x != decide (b ≤ m)) s
theorem zcP {m:Int} : ∀ {bs:List Int} {s:Bool},(∀ b ∈ bs,m < b) → par s bs m = s
 | [],_,_=>rfl
 | b :: bs,s,h=>by
  have hb:=h b List.mem_cons_self
  have:decide (b ≤ m) = false:=decide_eq_false (by omega)
  show par (s != decide (b ≤ m)) bs m = s
  rw [this,zcP fun c hc=>h c (List.mem_cons_of_mem _ hc)]
  cases s <;> rfl
theorem zdZ (a b:Option Int) (r:List Stt) : bnds ((a,b) :: r) = a.toList ++ (b.toList ++ bnds r):=by
 simp [bnds]
theorem zfd {p:Stt} {r:List Stt} {e:Int} (h:Can (p :: r)) (he:p.2 = some e) : ∀ b ∈ bnds r,e < b:=by
 intro b hb
 obtain ⟨s,hs,hx⟩:=List.mem_flatMap.mp hb
 obtain ⟨e',c,h1,h2,h3⟩:=(List.pairwise_cons.mp h.2).1 s hs
 rw [he] at h1
 cases h1
 rcases List.mem_append.mp hx with z | z
 ·rw [h2] at z
  have:b = c:=by simpa using z
  omega
 ·cases q:s.2 with
  | none=>rw [q] at z; simp at z
  | some d =>
   rw [q] at z
   have:b = d:=by simpa using z
   have:=h.1 s (List.mem_cons_of_mem _ hs) c d h2 q
   omega
theorem tail_nil {p:Stt} {r:List Stt} (h:Can (p :: r)) (he:p.2 = none) : r = []:=by
 cases r with
 | nil=>rfl
 | cons q r =>
  obtain ⟨b,c,h1,_⟩:=(List.pairwise_cons.mp h.2).1 q List.mem_cons_self
  rw [he] at h1
  cases h1
theorem zmy {p:Stt} {r:List Stt} (h:Can (p :: r)) : fe r = false:=by
 cases r with
 | nil=>rfl
 | cons q r =>
  obtain ⟨b,c,_,h2,_⟩:=(List.pairwise_cons.mp h.2).1 q List.mem_cons_self
  obtain ⟨x,y⟩:=q
  have h2':x = some c:=h2
  rw [h2']
  rfl
theorem zlv:∀ {l:List Stt},Can l → ∀ m,zac m l = par (fe l) (bnds l) m
 | [],_,_=>rfl
 | (a, b) :: r, h, m => by
  have ih:=zlv h.tail m
  rw [zmy h] at ih
  have hr:zac m ((a,b) :: r) = (inS m (a,b) || zac m r):=by simp [zac]
  rw [hr,zdZ]
  cases b with
  | none =>
   have er:=tail_nil h rfl
   subst er
   cases a with
   | none=>simp [inS,zac,fe,bnds,par]
   | some a=>simp [inS,zac,fe,bnds,par]
  | some e =>
   have ab:∀ c ∈ bnds r,e < c:=zfd h rfl
   cases a with
   | none =>
    show _ = par (true != decide (e ≤ m)) (bnds r) m
    by_cases hm:e ≤ m
    ·rw [decide_eq_true hm]
     have:inS m (none,some e) = false:=by simp [inS]; omega
     rw [this,Bool.false_or,ih]
     rfl
    ·rw [decide_eq_false hm,zcP fun c hc=>by have:=ab c hc; omega]
     have:inS m (none,some e) = true:=by simp [inS]; omega
     rw [this]
     rfl
   | some a =>
    have ae:=h.1 _ List.mem_cons_self a e rfl rfl
    show _ = par ((false != decide (a ≤ m)) != decide (e ≤ m)) (bnds r) m
    by_cases ha:a ≤ m
    ·by_cases hm:e ≤ m
     ·rw [decide_eq_true ha,decide_eq_true hm]
      have:inS m (some a,some e) = false:=by simp [inS]; omega
      rw [this,Bool.false_or,ih]
      rfl
     ·rw [decide_eq_true ha,decide_eq_false hm,zcP fun c hc=>by have:=ab c hc; omega]
      have:inS m (some a,some e) = true:=by simp [inS]; omega
      rw [this]
      rfl
    ·have hm : ¬ e ≤ m:=by omega
     have low:∀ c ∈ bnds r,m < c:=fun c hc=>by have:=ab c hc; omega
     rw [decide_eq_false ha,decide_eq_false hm,zcP low]
     have:inS m (some a,some e) = false:=by simp [inS]; omega
     rw [this,Bool.false_or,ih,zcP low]
     rfl
theorem zfY:∀ {l:List Stt},Can l → Inc (bnds l)
 | [],_=>List.Pairwise.nil
 | (a, b) :: r, h => by
  have ih:=zfY h.tail
  rw [zdZ]
  cases b with
  | none =>
   have er:=tail_nil h rfl
   subst er
   cases a with
   | none=>exact List.Pairwise.nil
   | some a=>exact List.pairwise_singleton _ _
  | some e =>
   have ab:∀ c ∈ bnds r,e < c:=zfd h rfl
   have i2:Inc (e :: bnds r):=List.pairwise_cons.mpr ⟨ab,ih⟩
   cases a with
   | none=>exact i2
   | some a =>
    have ae:=h.1 _ List.mem_cons_self a e rfl rfl
    refine List.pairwise_cons.mpr ⟨fun c hc=>?_,i2⟩
    rcases List.mem_cons.mp hc with z | z
    ·omega
    ·have:=ab c z; omega
def parP (s:Bool) (p:Int → Bool) (B:List Int) (m:Int) : Bool:=B.foldl (fun x b=>x != (p b && decide (b ≤ m))) s
def endP (s:Bool) (p:Int → Bool) (B:List Int) : Bool:=B.foldl (fun x b=>x != p b) s
theorem zkO {l:List Stt} {s:Stt} (h:Can (l ++ [s])) : Can l:=⟨fun q hq=>h.1 q (List.mem_append_left _ hq),(List.pairwise_append.mp h.2).1⟩
theorem zht {l:List Stt} {s:Stt} (h:Can l) (o:okS s) (a:∀ q ∈ l,Apart q s) : Can (l ++ [s]) :=
  ⟨fun q hq=>(List.mem_append.mp hq).elim (h.1 q) fun z=>by rw [List.mem_singleton.mp z]; exact o,
   List.pairwise_append.mpr ⟨h.2,List.pairwise_singleton _ _,fun q hq z hz=>by rw [List.mem_singleton.mp hz]; exact a q hq⟩⟩
section
variable {fw:Bool → Bool → Bool} {s1 s2:Bool} {p1 p2:Int → Bool} {done:List Int} {start:Option Int} {acc:List Stt} {b:Int}
end
end Wr
namespace Prf
open PySem L2 Wr
theorem take_snoc {α:Type} {l:List α} {i:Nat} {x:α} (h:l[i]? = some x) : l.take (i + 1) = l.take i ++ [x]:=by rw [List.take_add_one,h]; rfl
theorem zhb {l r:List Stt} (h:l.Perm r) (m:Int) : zac m l = zac m r:=by
 rw [Bool.eq_iff_iff,zam,zam]
 constructor
 ·rintro ⟨s,hs,q⟩; exact ⟨s,h.mem_iff.mp hs,q⟩
 ·rintro ⟨s,hs,q⟩; exact ⟨s,h.mem_iff.mpr hs,q⟩
theorem zdW {α β:Type} {f:α → β} {l:List α} {i:Nat} {x:β} (h:(l.map f)[i]? = some x) : ∃ a,l[i]? = some a ∧ x = f a:=by
 rw [List.getElem?_map] at h
 cases e:l[i]? with
 | none=>rw [e] at h; cases h
 | some a=>rw [e] at h; exact ⟨a,rfl,(Option.some.inj h).symm⟩
theorem len_sub:∀ {l g:List Int},l.Nodup → (∀ x ∈ l,x ∈ g) → l.length ≤ g.length
 | [],_,_,_=>Nat.zero_le _
 | x :: l,g,nd,h=>by
  have hx:=h x List.mem_cons_self
  obtain ⟨n1,n2⟩:=List.nodup_cons.mp nd
  have:=len_sub (l:=l) (g:=g.erase x) n2 fun y hy=>(List.mem_erase_of_ne (fun (e:y = x)=>n1 (by rw [← e]; exact hy))).mpr (h y (List.mem_cons_of_mem _ hy))
  rw [List.length_erase_of_mem hx] at this
  have:=List.length_pos_of_mem hx
  simp only [List.length_cons]
  omega
theorem zhF:∀ {bs:List Int} {s:Bool} {b:Int},Inc bs → b ∈ bs → par s bs b ≠ par s bs (b - 1)
 | x :: bs, s, b, hi, hb => by
  obtain ⟨h1,h2⟩:=List.pairwise_cons.mp hi
  rcases List.mem_cons.mp hb with rfl | hm
  ·show par (s != decide (b ≤ b)) bs b ≠ par (s != decide (b ≤ b - 1)) bs (b - 1)
   rw [decide_eq_true (Int.le_refl b),decide_eq_false (by omega),zcP h1,zcP fun c hc=>by have:=h1 c hc; omega]
   cases s <;> decide
  ·have:=h1 b hm
   show par (s != decide (x ≤ b)) bs b ≠ par (s != decide (x ≤ b - 1)) bs (b - 1)
   rw [decide_eq_true (by omega),decide_eq_true (show x ≤ b - 1 by omega)]
   exact zhF h2 hm
theorem zig {g:List Int} {b:Int} (h:b ∉ g) : zav g b = zav g (b - 1):=by
 unfold zav
 congr 1
 refine List.filter_congr fun x hx=>?_
 rw [Bool.eq_iff_iff,decide_eq_true_iff,decide_eq_true_iff]
 have:x ≠ b:=fun e=>h (e ▸ hx)
 omega
theorem zjg {g:List Int} {l:List Stt} {φ:Nat → Bool} (hl:Can l) (h:∀ m,zac m l = φ (zav g m)) : ∀ b ∈ bnds l,b ∈ g:=by
 intro b hb
 by_cases hg:b ∈ g
 ·exact hg
 ·have e1:=h b
  have e2:=h (b - 1)
  rw [zig hg] at e1
  rw [zlv hl] at e1 e2
  exact absurd (e1.trans e2.symm) (zhF (zfY hl) hb)
end Prf
namespace L2
open PySem PySem.Spec PyProof.Rows
theorem ObjOk.at {P:Program} {w:World} {H:Hp} {h:Heap} {a:Addr} {o:HO} (x:ObjOk P w H h a o) : ∃ u,h.get? a = some u:=by
 cases o with
 | lst xs=>obtain ⟨_,_,_,_,e⟩:=x; exact ⟨_,e⟩
 | tup xs=>obtain ⟨_,_,_,o,e,_⟩:=x; exact ⟨_,e⟩
 | dK kvs=>obtain ⟨_,_,_,_,o,_,_,e,_⟩:=x; exact ⟨_,e⟩
 | dT kvs=>obtain ⟨_,_,_,_,o,_,_,e,_⟩:=x; exact ⟨_,e⟩
 | set S n=>obtain ⟨o,_,_,_,e,_⟩:=x; exact ⟨_,e⟩
 | ins C dx fs=>obtain ⟨_,_,_,e,_⟩:=x; exact ⟨_,e⟩
 | own y=>obtain ⟨_,e⟩:=x; exact ⟨_,e⟩
 | xd fs=>obtain ⟨_,⟨_,_,_,e,_⟩,_⟩:=x; exact ⟨_,e⟩
 | rng lo hi=>obtain ⟨_,_,_,e⟩:=x; exact ⟨_,e⟩
 | frz ob u=>obtain ⟨e,_⟩:=x; exact ⟨_,e⟩
 | tbl ps=>exact ⟨_,(show h.get? a = some _ from x)⟩
 | met f y=>exact ⟨_,(show h.get? a = some _ from x)⟩
 | ext φ=>obtain ⟨_,⟨_,e⟩,_⟩:=x; exact ⟨_,e⟩
def Cov (l:List Env) (H:Hp) (h0 h B:Heap) : Prop:=∀ b o,h.get? b = some o → (H b ≠ none ∨ ∃ u,h0.get? b = some u) → b ∉ frs l → B.get? b = some o
def Fly (l:List Env) (a:Addr) (cls:Value) (H:Hp) (h0 h:Heap) : Prop:=∃ (a0:Value) (B:Heap),Heap.FlyingW B l a cls a0 h ∧ Cov l H h0 h B
def CXe (P:Program) (w:World) : CXT:=fun outer H s E e s' =>
 ∃ a cls H',e = Value.ref a ∧ s'.os = s.os ∧ AllBare s'.gens ∧ Un (frs outer) [] H H' s.heap s'.heap ∧ HOk P w H' s'.heap ∧ Fly outer a cls H' s.heap s'.heap ∧ E cls none H'
section
variable {P:Program} {w:World} {l:List Env} {H H':Hp} {h0 h h5 B:Heap}
end
section
variable {X:Cx} {pins:List (Addr × Obj)} {σ:St} {H:Hp} {s:Shared} {B h5:Heap}
end
section
variable {P:Program} {w:World} {K:PySem.W.Frag} {mg:Str → Option Value} {base:Heap} {N:List Str} {qual:Str} {scope:Scope} {f:Addr} {cd:Value} {A:Around} {outer:List Env} {s:Shared} {H:Hp} {E:XK}
end
section
variable {X:Cx} {k j:Nat} {x:Str} {ps:List Str} {sp:Sp} {p pos:Pos} {e:Expr} {es:List Expr} {t:TA}
theorem PA.at {W:Value → Shared → Prop} (h:PA X.nox es t) {pos:Pos} {pins:List (Addr × Obj)} {s:Shared} {σ:St} {H:Hp} {Q:List V → Hp → Prop} (I:Inv X pins σ H s) (hw:t σ H Q) :
  wpAny (model X.prog X.w) X.A (spliced (backTo pos (starEach es X.env))) (AP X pins σ Q) W s :=
 wpAny_mono (h pos pins s σ H Q (I.wish _) hw) (fun _ _ ⟨vs,H',I',r,q⟩=>⟨vs,H',I'.unwish,r,q⟩) fun _ _ z=>False.elim z
end
end L2
namespace L2
open PySem PySem.Spec PyProof.Rows
abbrev veM:List Value:=[.type "ValueError", .type "Exception", .type "BaseException", .type "object"]
section
variable {X:Cx} {E:XK} {x:Str} {C:Addr} {np cp pos:Pos} {e:Expr} {te:TE}
end
section
variable {X:Cx} {pos:Pos} {e e2:Expr} {es:List Expr} {te:TE} {t:TJ}
end
end L2
namespace L2
open PySem PySem.Spec PyProof.Rows
def Cx.sub (X:Cx) (a:Addr) (E:Value → Shared → Prop) : Cx:={ X with A:=X.A.mark (some (.ref a)),calm:=false,xe:=E }
theorem Cx.Ok.sub {X:Cx} (ok:X.Ok) (a:Addr) (E:Value → Shared → Prop) : (X.sub a E).Ok :=
 ⟨ok.mod,ok.kind,ok.glob,ok.blt,ok.above,ok.inj,ok.has,ok.cab,(fun z=>nomatch z),ok.frames,ok.stk,ok.exf,ok.bs,ok.bsz,ok.noex,ok.exfs,ok.funs,ok.frf⟩
section
variable {X:Cx} {pins:List (Addr × Obj)} {σ:St} {H:Hp} {s:Shared} {a:Addr} {E:Value → Shared → Prop}
theorem Inv.sub (I:Inv X pins σ H s) (a:Addr) (E:Value → Shared → Prop) : Inv (X.sub a E) pins σ H s:=⟨I.ok.sub a E,I.os,I.bare,I.base,I.loc,I.cell,I.free,I.freeC,I.pin,I.hok,I.len⟩
end
section
variable {X:Cx} {cn en y:Str} {C:Addr} {cp yp ep ap hp:Pos} {iy ie:Nat} {pins:List (Addr × Obj)} {σ:St} {D:Ends} {H1:Hp} {s1 s2:Shared} {e1:Value}
end
end L2
namespace L2
open PySem PySem.Spec PyProof.Rows PySem.W PySem.Calls
section
open Builtin Builtin.ObjectAttr Builtin.Getset_descriptor
variable {K:PySem.W.Frag} {C a:Addr} {o:Obj} {prog:Program} {w:World} {A:Around} {s:Shared}
end
end L2
namespace L2
open PySem PySem.Spec PyProof.Rows
section
variable {X:Cx} {k j:Nat} {x y cn en:Str} {ps:List Str} {sp:Sp} {p pos np cp yp ep ap hp tp:Pos} {e e2:Expr} {es:List Expr} {t:TA} {te:TE} {tx:XK → TE} {E:XK} {C:Addr} {tj:TJ}
end
section
variable {P:Program} {w:World} {K:PySem.W.Frag} {mg:Str → Option Value} {base:Heap}
end
end L2
namespace L2
open PySem PySem.Spec PyProof.Rows PySem.W
section
variable {X:Cx} {pos p2:Pos} {a b:Expr} {ta tb:TE}
end
end L2
namespace L2
open PySem Wr
def EntAt (H:Hp) (v:V) (e:List Int × List Stt) : Prop:=∃ t p q,v = .ref t ∧ H t = some (.tup [.ref p,.ref q]) ∧ H p = some (.tup (e.1.map V.int)) ∧ SpanAt H q e.2
def SheetAt (H:Hp) (a:Addr) (es:List (List Int × List Stt)) : Prop:=∃ xs,H a = some (.lst xs) ∧ Paired (EntAt H) xs es
theorem EntAt.same {H H':Hp} {v:V} {e:List Int × List Stt} (s:Same H H') (h:EntAt H v e) : EntAt H' v e:=by
 obtain ⟨t,p,q,h1,h2,h3,h4⟩:=h
 exact ⟨t,p,q,h1,s _ _ h2,s _ _ h3,h4.same s⟩
theorem SheetAt.same {H H':Hp} {a:Addr} {es:List (List Int × List Stt)} (s:Same H H') (h:SheetAt H a es) : SheetAt H' a es:=by
 obtain ⟨xs,h1,h2⟩:=h
 exact ⟨xs,s _ _ h1,Paired.mapP h2 fun _ _ q=>q.same s⟩
theorem ziD {H H':Hp} {ys:List V} {rs:List (List Int)} (s:Same H H') (h:Paired (RowAt H) ys rs) : Paired (RowAt H') ys rs:=Paired.mapP h fun _ _ q=>q.same s
end L2
namespace L2
open PySem PySem.Spec PyProof.Rows
section
variable {X:Cx} {e:Expr} {es:List Expr} {te:TE} {t:TA}
theorem zhL {x:Str} {dp pos pos':Pos} (i:Nat) (hN:X.N.Nodup) (he:JE X (.Dict [] [] dp) te) (hi:X.N[i]? = some x:=by rfl) (hx:Loc X.env.scope x:=by first | exact Or.inl rfl | exact Or.inr rfl)
  (hf:X.fn x = true ∨ X.env.scope.names.lookup x = some .local:=by first | exact .inl rfl | exact .inr rfl) : JS X (.Assign [.Name x pos'] (.Dict [] [] dp) pos) (tAsg te (zaw i)):=⟨zli hN hi hx he.h rfl hf⟩
end
end L2
namespace Prf
open PySem L2 Wr
abbrev Kn:=List (List Int × Addr × List Bool)
def zoW (kn:Kn) : List (List Key × V):=kn.map fun q=>(q.1.map Sum.inl,.ref q.2.1)
theorem ziC {a b:List Int} (h:(a.map Sum.inl:List Key) = b.map Sum.inl) : a = b:=by
 induction a generalizing b with
 | nil=>cases b with | nil=>rfl | cons _ _=>cases h
 | cons x a ih => cases b with
  | nil=>cases h
  | cons y b =>
   simp only [List.map_cons,List.cons.injEq,Sum.inl.injEq] at h
   rw [h.1,ih h.2]
theorem ze6:∀ {l m:List (List Int)},l.Perm m → (l.Pairwise fun a b=>lexI b a = false) → (m.Pairwise fun a b=>lexI b a = false) → l = m
 | [],m,p,_,_=>p.symm.eq_nil.symm
 | x :: l,[],p,_,_=>by have:=p.eq_nil; cases this
 | x :: l, y :: m, p, h1, h2 => by
  obtain ⟨a1,a2⟩:=List.pairwise_cons.mp h1
  obtain ⟨b1,b2⟩:=List.pairwise_cons.mp h2
  have e:x = y:=by
   rcases List.mem_cons.mp (p.mem_iff.mp List.mem_cons_self) with z | z
   ·exact z
   ·rcases List.mem_cons.mp (p.symm.mem_iff.mp (List.mem_cons_self:y ∈ y :: m)) with w | w
    ·exact w.symm
    ·exact zbK (b1 x z) (a1 y w)
  subst e
  rw [ze6 (List.Perm.cons_inv p) a2 b2]
def dEnt (e:List Int × List Stt) : PyData:=.tuple [dRow e.1,.list (e.2.map dS)]
theorem EntAt.den {K:PySem.W.Frag} {H:Hp} {v:V} {e:List Int × List Stt} (h:EntAt H v e) : Den K H v (dEnt e):=by
 obtain ⟨t,p,q,rfl,h2,h3,h4⟩:=h
 exact .tup (SqT.of h2) (.cons (RowAt.den ⟨p,rfl,h3⟩) (.cons h4.den .nil))
theorem zhH {K:PySem.W.Frag} {H:Hp} : ∀ {vs:List V} {es:List (List Int × List Stt)},Paired (EntAt H) vs es → DenAll K H vs (es.map dEnt)
 | _,_,.nil=>.nil
 | _,_,.cons r t=>.cons (EntAt.den r) (zhH t)
theorem zh2 (ss:List Stt) : PyData.canLay0 (.list (ss.map dS)) = true ∧ PyData.depth (.list (ss.map dS)) ≤ 2:=by
 have h1:∀ o,(dO o).canLay0 = true ∧ (dO o).depth = 0:=fun o=>by cases o <;> simp [dO,PyData.canLay0,PyData.depth]
 have all:∀ ss:List Stt,PyData.canLayAll0 (ss.map dS) = true ∧ PyData.depthAll (ss.map dS) ≤ 1:=by
  intro ss
  induction ss with
  | nil=>simp [PyData.canLayAll0,PyData.depthAll]
  | cons s ss ih =>
   have e1:=h1 s.1
   have e2:=h1 s.2
   rw [List.map_cons]
   simp only [PyData.canLayAll0,PyData.depthAll,dS,PyData.canLay0,PyData.depth,e1,e2,ih.1]
   refine ⟨by simp,?_⟩
   have:=ih.2
   omega
 have:=all ss
 simp only [PyData.canLay0,PyData.depth,this.1,true_and]
 omega
theorem zfe:∀ es:List (List Int × List Stt),PyData.canLayAll0 (es.map dEnt) = true ∧ PyData.depthAll (es.map dEnt) ≤ 3
 | []=>by simp [PyData.canLayAll0,PyData.depthAll]
 | e :: es => by
  have ih:=zfe es
  have e1:=zcw e.1
  have e2:=zh2 e.2
  have d1:PyData.depth (dRow e.1) = 1:=by simp [dRow,PyData.depth,e1.2]
  have c1:PyData.canLay0 (dRow e.1) = true:=by simp [dRow,PyData.canLay0,e1.1]
  have d2:PyData.depth (dEnt e) ≤ 3:=by
   simp only [dEnt,PyData.depth,PyData.depthAll,d1]
   have:=e2.2
   simp only [PyData.depth] at this
   omega
  have c2:PyData.canLay0 (dEnt e) = true:=by
   have:=e2.1
   simp only [dEnt,PyData.canLay0,PyData.canLayAll0,c1,Bool.true_and,Bool.and_true] at this ⊢
   exact this
  rw [List.map_cons]
  simp only [PyData.canLayAll0,PyData.depthAll,c2,ih.1]
  exact ⟨rfl,by have:=ih.2; omega⟩
theorem zhK:∀ es:List (List Int × List Stt),PyData.eqvAll (es.map dEnt) (es.map dEnt) = true
 | []=>by simp [PyData.eqvAll]
 | e :: es=>by
  have h1:=zk9 e.2 e.2
  have h2:=zc7 e.1 e.1
  simp only [PyData.eqv,decide_true] at h1
  simp only [decide_true] at h2
  simp [PyData.eqvAll,dEnt,PyData.eqv,dRow,h1,h2,zhK es]
theorem zi4 (es:List (List Int × List Stt)) : PyData.eqv (.list (es.map dEnt)) (.list (es.map dEnt)) = true:=by rw [PyData.eqv]; exact zhK es
def EntX (H:Hp) (l:Addr) (v:V) (e:List Int × List Stt) : Prop:=∃ t p q,v = .ref t ∧ H t = some (.tup [.ref p,.ref q]) ∧ H p = some (.tup (e.1.map V.int)) ∧ SpanAt H q e.2 ∧ q ≠ l
theorem EntX.ent {H:Hp} {l:Addr} {v:V} {e:List Int × List Stt} (h:EntX H l v e) : EntAt H v e:=let ⟨t,p,q,a,b,c,d,_⟩:=h; ⟨t,p,q,a,b,c,d⟩
theorem EntX.same {H H':Hp} {l:Addr} {v:V} {e:List Int × List Stt} (s:Same H H') (h:EntX H l v e) : EntX H' l v e:=let ⟨t,p,q,a,b,c,d,f⟩:=h; ⟨t,p,q,a,s _ _ b,s _ _ c,d.same s,f⟩
theorem EntX.wr {H:Hp} {l:Addr} {o:HO} {v:V} {e:List Int × List Stt} (hl:∀ xs,H l ≠ some (.tup xs)) (h:EntX H l v e) : EntX (upd H l o) l v e:=by
 obtain ⟨t,p,q,a,b,c,d,f⟩:=h
 exact ⟨t,p,q,a,by rw [zai (fun z=>hl _ (by rw [← z]; exact b))]; exact b,by rw [zai (fun z=>hl _ (by rw [← z]; exact c))]; exact c,d.wr hl f,f⟩
def zn1 (H:Hp) (a l:Addr) (es:List (List Int × List Stt)) : Prop:=∃ xs,H a = some (.lst xs) ∧ Paired (EntX H l) xs es ∧ a ≠ l
end Prf
namespace Wr
def okB (s:Stt) : Bool:=match s.1,s.2 with
 | some a,some b=>decide (a < b)
 | _,_=>true
theorem zmH {s:Stt} : okB s = true ↔ okS s:=by
 obtain ⟨a,b⟩:=s
 cases a with
 | none=>exact ⟨fun _ x y h _=>(nomatch h),fun _=>rfl⟩
 | some a => cases b with
  | none=>exact ⟨fun _ x y _ h=>(nomatch h),fun _=>rfl⟩
  | some b =>
   constructor
   ·intro h x y h1 h2
    cases h1; cases h2
    exact of_decide_eq_true h
   ·intro h
    exact decide_eq_true (h a b rfl rfl)
end Wr
namespace L2
open PySem PySem.Spec PyProof.Rows Wr
abbrev Fact:=List Int × Stt
def FactAt (H:Hp) (v:V) (f:Fact) : Prop:=∃ t p,v = .ref t ∧ H t = some (.tup [.ref p,vO f.2.1,vO f.2.2]) ∧ H p = some (.tup (f.1.map V.int))
theorem FactAt.same {H H':Hp} {v:V} {f:Fact} (s:Same H H') (h:FactAt H v f) : FactAt H' v f:=let ⟨t,p,a,b,c⟩:=h; ⟨t,p,a,s _ _ b,s _ _ c⟩
theorem zaH {H H':Hp} {xs:List V} {fs:List Fact} (s:Same H H') (h:Paired (FactAt H) xs fs) : Paired (FactAt H') xs fs:=Paired.mapP h fun _ _ q=>q.same s
theorem FactAt.off {H H':Hp} {v:V} {f:Fact} (ft:∀ b xs,H b = some (.tup xs) → H' b = some (.tup xs)) (h:FactAt H v f) : FactAt H' v f:=let ⟨t,p,a,b,c⟩:=h; ⟨t,p,a,ft _ _ b,ft _ _ c⟩
theorem zbN {H H':Hp} {xs:List V} {fs:List Fact} (ft:∀ b xs,H b = some (.tup xs) → H' b = some (.tup xs)) (h:Paired (FactAt H) xs fs) : Paired (FactAt H') xs fs:=Paired.mapP h fun _ _ q=>q.off ft
theorem zao {H:Hp} {l:Addr} {o:HO} (hl:∀ xs,H l ≠ some (.tup xs)) (b:Addr) (xs:List V) (h:H b = some (.tup xs)) : upd H l o b = some (.tup xs):=by
 rw [zai (fun z=>hl _ (by rw [← z]; exact h))]; exact h
def zdj:List Fact → Nat
 | []=>0
 | f :: _=>f.1.length
section
variable {X:Cx}
end
end L2
namespace Prf
open PySem L2 Wr
theorem zhv {α β:Type} {f:α → β} : ∀ {l:List α} {a b:α},(l.map f).Nodup → a ∈ l → b ∈ l → f a = f b → a = b
 | [],_,_,_,h,_,_=>nomatch h
 | r :: l, a, b, nd, ha, hb, e => by
  rw [List.map_cons,List.nodup_cons] at nd
  rcases List.mem_cons.mp ha with h1 | h1
  ·rcases List.mem_cons.mp hb with h2 | h2
   ·rw [h1,h2]
   ·exact absurd (by rw [← h1,e]; exact List.mem_map_of_mem h2) nd.1
  ·rcases List.mem_cons.mp hb with h2 | h2
   ·exact absurd (by rw [← h2,← e]; exact List.mem_map_of_mem h1) nd.1
   ·exact zhv nd.2 h1 h2 e
theorem zax {α:Type} [DecidableEq α] : ∀ {l m:List α},l.Nodup → (∀ x ∈ l,x ∈ m) → l.length ≤ m.length
 | [],_,_,_=>Nat.zero_le _
 | x :: l,m,nd,h=>by
  have hx:=h x List.mem_cons_self
  obtain ⟨n1,n2⟩:=List.nodup_cons.mp nd
  have:=zax (l:=l) (m:=m.erase x) n2 fun y hy=>(List.mem_erase_of_ne (fun (e:y = x)=>n1 (by rw [← e]; exact hy))).mpr (h y (List.mem_cons_of_mem _ hy))
  rw [List.length_erase_of_mem hx] at this
  have:=List.length_pos_of_mem hx
  simp only [List.length_cons]
  omega
abbrev Td:=List (List Int × Addr × List Stt)
def zcd (td:Td) : List (List Key × V):=td.map fun q=>(q.1.map Sum.inl,.ref q.2.1)
theorem zhy:∀ {td:Td} {q:List Int × Addr × List Stt},(td.map (·.1)).Nodup → q ∈ td → valV (zcd td) (q.1.map Sum.inl) = some (.ref q.2.1)
 | [],_,_,h=>nomatch h
 | p :: td,q,nd,h=>by
  rw [List.map_cons,List.nodup_cons] at nd
  rcases List.mem_cons.mp h with rfl | h
  ·exact zb7 rfl
  ·exact (zbB fun z=>nd.1 (by rw [show p.1 = q.1 from ziC z]; exact List.mem_map_of_mem h)).trans (zhy nd.2 h)
theorem zfk:∀ {td:Td} {r:List Int},r ∉ td.map (·.1) → valV (zcd td) (r.map Sum.inl) = none
 | [],_,_=>rfl
 | p :: td,r,h=>(zbB fun z=>h (by rw [List.map_cons,show p.1 = r from ziC z]; exact List.mem_cons_self)).trans (zfk fun z=>h (List.mem_cons_of_mem _ z))
def told (fs:List Fact) (r:List Int) : List Stt:=(fs.filter fun f=>decide (f.1 = r)).map (·.2)
theorem zjx {fs:List Fact} {f:Fact} {r:List Int} : told (fs ++ [f]) r = told fs r ++ (if f.1 = r then [f.2] else []):=by
 unfold told
 rw [List.filter_append,List.map_append]
 by_cases h:f.1 = r <;> simp [h]
theorem zk2 {fs:List Fact} {r:List Int} (h:r ∉ fs.map (·.1)) : told fs r = []:=by
 unfold told
 rw [List.filter_eq_nil_iff.mpr,List.map_nil]
 intro f hf z
 exact h (by rw [← of_decide_eq_true z]; exact List.mem_map_of_mem hf)
theorem zaF {fs:List Fact} {r:List Int} {s:Stt} : s ∈ told fs r ↔ (r,s) ∈ fs:=by
 unfold told
 simp only [List.mem_map,List.mem_filter,decide_eq_true_eq]
 constructor
 ·rintro ⟨⟨a,b⟩,⟨h1,h2⟩,h3⟩
  have e1:a = r:=h2
  have e2:b = s:=h3
  rw [← e1,← e2]; exact h1
 ·intro h
  exact ⟨(r,s),⟨h,rfl⟩,rfl⟩
structure TdI (H2 H':Hp) (d:Addr) (fs:List Fact) (td:Td) (ex:List (List Int)) : Prop where
 at':H' d = some (.dT (zcd td))
 nd:(td.map (·.1)).Nodup
 ne:∀ q ∈ td,q.1 ≠ []
 lst:∀ q ∈ td,SpanAt H' q.2.1 q.2.2
 ad:(td.map (·.2.1)).Nodup
 fresh:∀ q ∈ td,H2 q.2.1 = none
 same:Same H2 H'
 dn:H2 d = none
 grp:∀ q ∈ td,q.2.2 = told fs q.1
 rows:∀ r,r ∈ td.map (·.1) ↔ r ∈ fs.map (·.1) ∨ r ∈ ex
theorem TdI.sm {H2 H' H'':Hp} {d:Addr} {fs:List Fact} {td:Td} {ex:List (List Int)} (h:TdI H2 H' d fs td ex) (s:Same H' H'') : TdI H2 H'' d fs td ex :=
 ⟨s _ _ h.at',h.nd,h.ne,fun q hq=>(h.lst q hq).same s,h.ad,h.fresh,h.same.trans s,h.dn,h.grp,h.rows⟩
theorem TdI.known {H2 H':Hp} {d:Addr} {fs:List Fact} {td:Td} {ex:List (List Int)} (h:TdI H2 H' d fs td ex) : TDict H' d (zcd td) (td.map (·.1)) :=
 ⟨.inl h.at',by unfold zcd; rw [List.map_map,List.map_map]; rfl,fun k hk=>by obtain ⟨q,h1,rfl⟩:=List.mem_map.mp hk; exact h.ne q h1⟩
theorem TdI.add {H2 H':Hp} {d D:Addr} {fs:List Fact} {td:Td} {row:List Int} (h:TdI H2 H' d fs td []) (hr:row ∉ td.map (·.1)) (ne:row ≠ []) (hD:H' D = some (.lst [])) (fr:H2 D = none) (hn:D ∉ td.map (·.2.1)) :
  TdI H2 (upd H' d (.dT (putK (zcd td) (row.map Sum.inl) (.ref D)))) d fs (td ++ [(row,D,[])]) [row]:=by
 have dD:D ≠ d:=fun z=>by rw [z,h.at'] at hD; cases hD
 have dq:∀ q ∈ td,q.2.1 ≠ d:=fun q hq z=>by obtain ⟨_,e,_⟩:=h.lst q hq; rw [z,h.at'] at e; cases e
 have nt:∀ xs,H' d ≠ some (.tup xs):=fun xs z=>by rw [h.at'] at z; cases z
 refine ⟨?_,?_,fun q hq=>?_,fun q hq=>?_,?_,fun q hq=>?_,h.same.upd h.dn,h.dn,fun q hq=>?_,fun r=>?_⟩
 ·rw [zaa,zhu _ (zfk hr)]; unfold zcd; rw [List.map_append]; rfl
 ·rw [List.map_append]; exact List.nodup_append.mpr ⟨h.nd,by simp,fun x hx y hy z=>hr ((show y = row from by simpa using hy) ▸ z ▸ hx)⟩
 ·rcases List.mem_append.mp hq with z | z
  ·exact h.ne q z
  ·rw [List.mem_singleton.mp z]; exact ne
 ·rcases List.mem_append.mp hq with z | z
  ·exact (h.lst q z).wr nt (dq q z)
  ·rw [List.mem_singleton.mp z]
   exact ⟨[],by show upd H' d _ D = _; rw [zai dD]; exact hD,.nil⟩
 ·rw [List.map_append]; exact List.nodup_append.mpr ⟨h.ad,by simp,fun x hx y hy z=>hn ((show y = D from by simpa using hy) ▸ z ▸ hx)⟩
 ·rcases List.mem_append.mp hq with z | z
  ·exact h.fresh q z
  ·rw [List.mem_singleton.mp z]; exact fr
 ·rcases List.mem_append.mp hq with z | z
  ·exact h.grp q z
  ·rw [List.mem_singleton.mp z]
   refine (zk2 fun z=>hr ((h.rows row).mpr (.inl z))).symm
 ·rw [List.map_append,List.mem_append,h.rows]
  simp
theorem TdI.app {H2 H':Hp} {d u:Addr} {fs:List Fact} {td:Td} {ex:List (List Int)} {q:List Int × Addr × List Stt} {st:Stt} {xs:List V} (h:TdI H2 H' d fs td ex) (hq:q ∈ td) (hex:∀ r ∈ ex,r = q.1) (hx:H' q.2.1 = some (.lst xs)) (hs:StsAt H' xs q.2.2)
  (hu:H' u = some (.tup [vO st.1,vO st.2])) : TdI H2 (upd H' q.2.1 (.lst (xs ++ [.ref u]))) d (fs ++ [(q.1,st)]) (td.map fun p=>if p.2.1 = q.2.1 then (p.1,p.2.1,p.2.2 ++ [st]) else p) []:=by
 have dq:d ≠ q.2.1:=fun z=>by rw [← z,h.at'] at hx; cases hx
 have nt:=zaJ hx
 have e1:∀ p:List Int × Addr × List Stt,(if p.2.1 = q.2.1 then (p.1,p.2.1,p.2.2 ++ [st]) else p).1 = p.1:=fun p=>by split <;> rfl
 have e2:∀ p:List Int × Addr × List Stt,(if p.2.1 = q.2.1 then (p.1,p.2.1,p.2.2 ++ [st]) else p).2.1 = p.2.1:=fun p=>by split <;> rfl
 have m1:((td.map fun p=>if p.2.1 = q.2.1 then (p.1,p.2.1,p.2.2 ++ [st]) else p).map (·.1)) = td.map (·.1):=by rw [List.map_map]; exact List.map_congr_left fun p _=>e1 p
 have m2:((td.map fun p=>if p.2.1 = q.2.1 then (p.1,p.2.1,p.2.2 ++ [st]) else p).map (·.2.1)) = td.map (·.2.1):=by rw [List.map_map]; exact List.map_congr_left fun p _=>e2 p
 have m3:zcd (td.map fun p=>if p.2.1 = q.2.1 then (p.1,p.2.1,p.2.2 ++ [st]) else p) = zcd td:=by unfold zcd; rw [List.map_map]; exact List.map_congr_left fun p _=>by show (_,_) = (_,_); rw [e1,e2]
 refine ⟨by rw [zai dq,m3]; exact h.at',by rw [m1]; exact h.nd,fun p hp=>?_,fun p hp=>?_,by rw [m2]; exact h.ad,fun p hp=>?_,h.same.upd (h.fresh q hq),h.dn,fun p hp=>?_,fun r=>?_⟩
 ·obtain ⟨p,hp1,rfl⟩:=List.mem_map.mp hp; rw [e1]; exact h.ne p hp1
 ·obtain ⟨p,hp1,rfl⟩:=List.mem_map.mp hp
  rw [e2]
  by_cases z:p.2.1 = q.2.1
  ·rw [if_pos z,zhv h.ad hp1 hq z]
   refine ⟨_,zaa,zah (R:=StAt (upd H' q.2.1 (.lst (xs ++ [.ref u])))) ⟨u,rfl,zao nt _ _ hu⟩ (StsAt.wr nt hs)⟩
  ·rw [if_neg z]; exact (h.lst p hp1).wr nt z
 ·obtain ⟨p,hp1,rfl⟩:=List.mem_map.mp hp; rw [e2]; exact h.fresh p hp1
 ·obtain ⟨p,hp1,rfl⟩:=List.mem_map.mp hp
  rw [e1,zjx,← h.grp p hp1]
  by_cases z:p.2.1 = q.2.1
  ·rw [if_pos z,zhv h.ad hp1 hq z,if_pos rfl]
  ·rw [if_neg z,if_neg,List.append_nil]
   intro z'
   have:p = q:=zhv h.nd hp1 hq z'.symm
   exact z (by rw [this])
 ·rw [m1,h.rows,List.map_append,List.mem_append]
  have hqr:=(h.rows q.1).mp (List.mem_map_of_mem hq)
  constructor
  ·rintro (z | z)
   ·exact .inl (.inl z)
   ·exact .inl (.inr (by rw [hex r z]; simp))
  ·rintro ((z | z) | z)
   ·exact .inl z
   ·have:r = q.1:=by simpa using z
    rw [this]; exact hqr
   ·cases z
def EntN (H H':Hp) (D:Addr) (v:V) (e:List Int × List Stt) : Prop:=∃ t p q,v = .ref t ∧ H' t = some (.tup [.ref p,.ref q]) ∧ H' p = some (.tup (e.1.map V.int)) ∧ SpanAt H' q e.2 ∧ H q = none ∧ q ≠ D
def SheetN (H H':Hp) (D:Addr) (es:List (List Int × List Stt)) : Prop:=∃ xs,H' D = some (.lst xs) ∧ Paired (EntN H H' D) xs es
theorem SheetN.at' {H H':Hp} {D:Addr} {es:List (List Int × List Stt)} (h:SheetN H H' D es) : SheetAt H' D es:=let ⟨xs,a,b⟩:=h; ⟨xs,a,Paired.mapP b fun _ _ ⟨t,p,q,x1,x2,x3,x4,_⟩=>⟨t,p,q,x1,x2,x3,x4⟩⟩
structure ShOf (fs:List Fact) (es:List (List Int × List Stt)) : Prop where
 ord:(es.map (·.1)).Pairwise fun a b=>lexI b a = false
 nd:(es.map (·.1)).Nodup
 rows:∀ r,r ∈ es.map (·.1) ↔ r ∈ fs.map (·.1)
 can:∀ e ∈ es,Can e.2
 few:∀ e ∈ es,e.2.length ≤ 63
 sp:∀ e ∈ es,∀ m,zac m e.2 = zac m (told fs e.1)
end Prf
namespace L2
open PySem
theorem zdy {r:Int} {n:Nat} (h:0 < n) : ∃ k:Nat,r % (n:Int) = (k:Int) ∧ k < n:=by
 have h1:=Int.emod_nonneg r (show (n:Int) ≠ 0 by omega)
 have h2:=Int.emod_lt_of_pos r (show (0:Int) < n by omega)
 exact ⟨(r % (n:Int)).toNat,by omega,by omega⟩
end L2
namespace Prf
open PySem L2 Wr
theorem zeb {fs:List Fact} {L:Nat} (h:∀ f ∈ fs,f.1.length = L) : ∀ f ∈ fs,f.1.length = zdj fs:=by
 intro f hf
 cases fs with
 | nil=>cases hf
 | cons x fs=>rw [h f hf]; exact (h x List.mem_cons_self).symm
end Prf
namespace L2
open PySem PySem.Spec PyProof.Rows
section
variable {X:Cx} {a b:Expr} {ta tb:TE} {pos:Pos}
end
end L2
namespace Prf
open PySem L2 Wr
abbrev Ent:=List Int × List Stt
structure ShB (φ:List Int → Int → Bool) (es:List Ent) : Prop where
 ord:(es.map (·.1)).Pairwise fun a b=>lexI b a = false
 nd:(es.map (·.1)).Nodup
 can:∀ e ∈ es,Can e.2
 sp:∀ e ∈ es,∀ m,zac m e.2 = φ e.1 m
 all:∀ r m,φ r m = true → r ∈ es.map (·.1)
 non:∀ e ∈ es,∃ m,φ e.1 m = true
theorem ShB.imp {φ ψ:List Int → Int → Bool} {es:List Ent} (h:ShB φ es) (e:∀ r m,φ r m = ψ r m) : ShB ψ es:=by
 have:φ = ψ:=funext fun r=>funext fun m=>e r m
 rw [← this]; exact h
theorem zlf {s:Stt} (h:okS s) : ∃ m,inS m s = true:=by
 obtain ⟨m,hm⟩:=zcW (r:=[]) h
 exact ⟨m,by simpa [zac] using hm⟩
theorem ShOf.shB {fs:List Fact} {es:List Ent} (h:ShOf fs es) (ok:∀ f ∈ fs,okS f.2) : ShB (fun r m=>zac m (told fs r)) es:=by
 refine ⟨h.ord,h.nd,h.can,h.sp,fun r m hm=>?_,fun e he=>?_⟩
 ·obtain ⟨s,hs,_⟩:=List.any_eq_true.mp hm
  exact (h.rows r).mpr (List.mem_map.mpr ⟨(r,s),zaF.mp hs,rfl⟩)
 ·obtain ⟨f,hf,ef⟩:=List.mem_map.mp ((h.rows e.1).mp (List.mem_map_of_mem he))
  obtain ⟨m,hm⟩:=zlf (ok f hf)
  exact ⟨m,List.any_eq_true.mpr ⟨f.2,zaF.mpr (by rw [← ef]; exact hf),hm⟩⟩
def zak (es:List Ent) : List Fact:=es.flatMap fun e=>e.2.map fun s=>(e.1,s)
theorem za5 {es:List Ent} {f:Fact} : f ∈ zak es ↔ ∃ e ∈ es,f.1 = e.1 ∧ f.2 ∈ e.2:=by
 unfold zak
 rw [List.mem_flatMap]
 constructor
 ·rintro ⟨e,he,hf⟩
  obtain ⟨s,hs,rfl⟩:=List.mem_map.mp hf
  exact ⟨e,he,rfl,hs⟩
 ·rintro ⟨e,he,h1,h2⟩
  exact ⟨e,he,List.mem_map.mpr ⟨f.2,h2,by rw [← h1]⟩⟩
theorem zdC {es:List Ent} {r:List Int} {m:Int} : zac m (told (zak es) r) = true ↔ ∃ e ∈ es,e.1 = r ∧ zac m e.2 = true:=by
 constructor
 ·intro h
  obtain ⟨s,hs,hm⟩:=List.any_eq_true.mp h
  obtain ⟨e,he,h1,h2⟩:=za5.mp (zaF.mp hs)
  exact ⟨e,he,h1.symm,List.any_eq_true.mpr ⟨s,h2,hm⟩⟩
 ·rintro ⟨e,he,rfl,h⟩
  obtain ⟨s,hs,hm⟩:=List.any_eq_true.mp h
  exact List.any_eq_true.mpr ⟨s,zaF.mpr (za5.mpr ⟨e,he,rfl,hs⟩),hm⟩
theorem ShB.told {φ:List Int → Int → Bool} {es:List Ent} (h:ShB φ es) (r:List Int) (m:Int) : zac m (told (zak es) r) = φ r m:=by
 rw [Bool.eq_iff_iff,zdC]
 constructor
 ·rintro ⟨e,he,rfl,hm⟩
  rw [← h.sp e he]; exact hm
 ·intro hm
  obtain ⟨e,he,rfl⟩:=List.mem_map.mp (h.all r m hm)
  exact ⟨e,he,rfl,by rw [h.sp e he]; exact hm⟩
theorem zct {α β:Type} {R:α → β → Prop} : ∀ {xs xs':List α} {ys ys':List β},Paired R xs ys → Paired R xs' ys' → Paired R (xs ++ xs') (ys ++ ys')
 | _,_,_,_,.nil,h=>h
 | _,_,_,_,.cons r t,h=>.cons r (zct t h)
theorem SheetN.weak {H0 H H':Hp} {D:Addr} {es:List Ent} (h:SheetN H H' D es) (s:Same H0 H) : SheetN H0 H' D es :=
 let ⟨xs,a,b⟩:=h; ⟨xs,a,Paired.mapP b fun _ _ ⟨t,p,q,x1,x2,x3,x4,x5,x6⟩=>⟨t,p,q,x1,x2,x3,x4,s.free x5,x6⟩⟩
end Prf
namespace L2
end L2
namespace Prf
open PySem L2 Wr
theorem SheetN.x {H H':Hp} {D l:Addr} {es:List Ent} {o:HO} (h:SheetN H H' D es) (hD:H D = none) (hl:H l = some o) : zn1 H' D l es:=by
 obtain ⟨xs,a,b⟩:=h
 exact ⟨xs,a,Paired.mapP b fun _ _ ⟨t,p,q,x1,x2,x3,x4,x5,x6⟩=>⟨t,p,q,x1,x2,x3,x4,fun z=>by rw [z,hl] at x5; cases x5⟩,fun z=>by rw [z,hl] at hD; cases hD⟩
theorem ShB.ne {φ:List Int → Int → Bool} {es:List Ent} (h:ShB φ es) : ∀ e ∈ es,e.2 ≠ []:=fun e he z=>by
 obtain ⟨m,hm⟩:=h.non e he
 rw [← h.sp e he,z] at hm
 cases hm
end Prf
namespace L2
open PySem PySem.Spec PyProof.Rows
structure Site where
 c:Addr
 P:Addr
section
variable {X:Cx} {S:Site} {params:Arguments} {body:Expr} {scope:Scope} {pos:Pos}
end
section
variable {X:Cx} {k j i:Nat} {x:Str} {ps:List Str} {sp:Sp} {p pos:Pos} {e:Expr} {es:List Expr} {t:TA} {f:Addr} {fd:FuncData}
end
def zoX:HO → Bool
 | .tbl _=>false
 | _=>true
structure LSite where
 S:Site
 q:Str
 pos:Pos
section
variable {Ls:List LSite} {H H1 H2:Hp} {a:Addr} {o:HO}
end
end L2
namespace L2
open PySem PySem.Spec PyProof.Rows
end L2
namespace L2
open PySem PySem.Spec PyProof.Rows
section
variable {P:Program} {w:World} {K:PySem.W.Frag} {mg:Str → Option Value} {base:Heap}
end
section
variable {X:Cx} {S:Site} {params:Arguments} {body:Expr} {scope:Scope} {pos:Pos}
end
end L2
namespace L2
open PySem Wr
variable {Ls:List LSite} {H H':Hp}
end L2
namespace Prf
open PySem L2 Wr
variable {Ls:List LSite} {H H':Hp}
theorem zjf:∀ {l:List Stt},Can l → l.length ≤ (bnds l).length + 1
 | [],_=>Nat.zero_le _
 | [_],_=>by simp
 | (a, b) :: q :: r, h => by
  have ih:=zjf h.tail
  cases b with
  | none=>have:=tail_nil h rfl; cases this
  | some e =>
   rw [zdZ]
   simp only [Option.toList_some,List.length_append,List.length_cons,List.length_nil] at *
   omega
theorem zki {l:List Stt} {g:List Int} (hl:Can l) (h:∀ x ∈ bnds l,x ∈ g) : l.length ≤ g.length + 1:=by
 have h1:=zjf hl
 have h2:=len_sub ((zfY hl).imp fun h=>by omega) h
 omega
theorem zmD {st:Stt} (h:okS st) : Can [st]:=⟨fun s hs=>by rw [List.mem_singleton.mp hs]; exact h,List.pairwise_singleton ..⟩
theorem zdt {m:Int} {st:Stt} : zac m [st] = inS m st:=by simp [zac]
end Prf
namespace L2
open PySem PySem.Spec PyProof.Rows
section
variable {X:Cx}
end
theorem zkT {ob:Obj} {d:Addr} {kvs:List (List Key × V)} {ks:List (List Int)} {g:TG} {tb:TS} {D:Ends} {σ:St} {H:Hp} (hk:kvs.map (·.1) = ks.map (·.map Sum.inl)) (Pv:Nat → St → Hp → Prop) (h0:Pv 0 σ H) (hl:∀ i σ H,i ≤ ks.length → Pv i σ H → H d = some (.frz ob (.dT kvs)))
  (hs:∀ i x row σ H,ks[i]? = some row → RowAt H x row → Pv i σ H → g x σ H fun σ2 H2=>tb { D with nx:=Pv (i + 1),ct:=Pv (i + 1),bk:=D.nx } σ2 H2) (hd:∀ σ H,Pv ks.length σ H → D.nx σ H) :
  ∃ W:Nat → Nat → St → Hp → Prop,(∃ m,W 0 m σ H) ∧ ∀ i m σ H,W i m σ H →
   ((Itk ob d kvs).stop i H ∧ D.nx σ H) ∨ ((Itk ob d kvs).go i H ∧ ∃ N:St → Hp → Prop,(∀ σ' H',N σ' H' → ∃ m',m' < m ∧ W (i + 1) m' σ' H') ∧ ∀ x H',(Itk ob d kvs).yld i H x H' → g x σ H' fun σ2 H2=>tb { D with nx:=N,ct:=N,bk:=D.nx } σ2 H2):=by
 have hlen:kvs.length = ks.length:=by have:=congrArg List.length hk; rwa [List.length_map,List.length_map] at this
 refine ⟨fun i m σ H=>m = ks.length - i ∧ i ≤ ks.length ∧ Pv i σ H,⟨ks.length,by simp,Nat.zero_le _,h0⟩,?_⟩
 rintro i m σ H ⟨rfl,hi,p⟩
 have q:=hl i σ H hi p
 by_cases hlt:i < ks.length
 ·refine .inr ⟨⟨q,by omega⟩,Pv (i + 1),fun σ' H' p'=>⟨ks.length - (i + 1),by omega,rfl,hlt,p'⟩,fun x H' y=>?_⟩
  obtain ⟨e,y⟩:=y
  subst e
  obtain ⟨row,e1,e2⟩:=y ks hk
  exact hs i x row σ _ e1 e2 p
 ·have e:i = ks.length:=by omega
  subst e
  exact .inl ⟨⟨q,by omega⟩,hd σ H p⟩
end L2
namespace Prf
open PySem L2 Wr
end Prf
namespace L2
open PySem
section
variable {g:TG} {tt:TT} {te:TE} {Q:VK} {σ:St} {H:Hp} {D:Addr}
theorem zhV {K:PySem.W.Frag} {a:Addr} {xs:List V} (Pv:Nat → List V → St → Hp → Prop) (h0:Pv 0 [] σ H) (hl:∀ i ys σ H,i ≤ xs.length → Pv i ys σ H → SqL K H a xs)
  (hs:let J:=Pv; ∀ i x ys σ H,xs[i]? = some x → J i ys σ H → g x σ H fun σ2 H2=>tt σ2 H2 fun b H3=>if b = true then te σ2 H3 fun v H4=>∃ zs,H4 D = some (.lst zs) ∧ zs.length < sizeLine ∧ ∃ ys',J (i + 1) ys' σ2 (upd H4 D (.lst (zs ++ [v]))) else ∃ ys',J (i + 1) ys' σ2 H3)
  (hd:∀ ys σ H,Pv xs.length ys σ H → Q (.ref D) H) : zdw (Itl K a) g tt te D Q σ H:=zaC Pv h0 hl hs hd
end
theorem zjW {K:PySem.W.Frag} {a:Addr} {xs:List V} {g:TG} {tb:TS} {D:Ends} {σ:St} {H:Hp} (Pv:Nat → St → Hp → Prop) (h0:Pv 0 σ H) (hl:∀ i σ H,i ≤ xs.length → Pv i σ H → SqL K H a xs)
  (hs:let J:=Pv; let E:=D; ∀ (i:Nat) x T σ H,xs[i]? = some x → J i σ H → H T = none → g (.ref T) σ (upd H T (.tup [.int i,x])) fun σ2 H2=>tb { E with nx:=J (i + 1),ct:=J (i + 1),bk:=E.nx } σ2 H2) (hd:∀ σ H,Pv xs.length σ H → D.nx σ H) :
  ∃ W:Nat → Nat → St → Hp → Prop,(∃ m,W 0 m σ H) ∧ ∀ i m σ H,W i m σ H →
   ((Ite K a).stop i H ∧ D.nx σ H) ∨ ((Ite K a).go i H ∧ ∃ N:St → Hp → Prop,(∀ σ' H',N σ' H' → ∃ m',m' < m ∧ W (i + 1) m' σ' H') ∧ ∀ x H',(Ite K a).yld i H x H' → g x σ H' fun σ2 H2=>tb { D with nx:=N,ct:=N,bk:=D.nx } σ2 H2):=zfL Pv h0 hl hs hd
section
open PyProof.Rows
variable {P:Program} {w:World} {K:PySem.W.Frag} {mg:Str → Option Value} {base:Heap}
theorem Fun.okJL {x qual:Str} {st:Stmt} {f:Addr} {fd:FuncData} {N ps:List Str} {k:Nat} {sp:Sp} (F:Fun K x qual st f fd) (S:FnScope N ps (zad st)) (len:∀ vs H Q E,sp vs H Q E → vs.length = ps.length)
  (hbody:∀ (cdv:Value) (A:Around) (outer:List Env) (s:Shared) (H:Hp) (vs:List V) (Q:VK) (E:XK),Room k (A.deeper (envOfC qual (zad st) s.heap.objs.size f cdv)) → sp vs H Q E →
   let X:=(cxOf CX0 P w K mg base N qual (zad st) f cdv A outer s H E).nox; let D:Ends:={ nx:=fun _ H'=>Q .non H',rt:=Q }; ∃ t,JB X (zbe st) t ∧ t D (start N vs) H) : FnOk P w K mg base CX0 (k + 1) f fd ps sp:=F.okJ S len hbody
theorem zmb {i:Nat} {v:V} {t u:TS} {D:Ends} {σ:St} {H:Hp} (h:let E:=D; let U:=u E; let S:=σ.set i (some v); t { E with nx:=U } S H) : zaw i v σ H (fun σ' H'=>tSeq t u D σ' H'):=h
end
end L2
namespace Prf
open PySem L2 Wr
end Prf
namespace L2
open PySem PySem.Spec PyProof.Rows
section
variable {X:Cx}
def zmx (K:PySem.W.Frag) : R2:=fun x y H Q=>∃ a b xs ys,x = .ref a ∧ y = .ref b ∧ SqT K H a xs ∧ SqT K H b ys ∧ xs.length + ys.length ≤ sizeLine ∧
 (xs = [] → Q (.ref b) H) ∧ (xs ≠ [] → ys = [] → Q (.ref a) H) ∧ (xs ≠ [] → ys ≠ [] → ∀ p,H p = none → Q (.ref p) (upd H p (.tup (xs ++ ys))))
theorem zmZ:OpR X (binaryOp .Add) (zmx X.K):=by
 intro pins s σ H x y v u Q I rx ry h
 obtain ⟨a,b,xs,ys,rfl,rfl,ha,hb,hz,q0,q1,q2⟩:=h
 by_cases hx:xs = []
 ·cases rx
  cases ry
  obtain ⟨its,r1,p1,_⟩:=I.tuple ha
  obtain ⟨its2,r2,p2,_⟩:=I.tuple hb
  obtain ⟨⟨cls,dd,data,sl⟩,ho,hc,n,hd⟩:=id p1
  obtain ⟨⟨cls2,dd2,data2,sl2⟩,ho2,hc2,n2,hd2⟩:=id p2
  simp only at hc hd hc2 hd2
  subst hc hd hc2 hd2
  have e:its = []:=r1.nil_iff.mpr hx
  exact concat_meets ⟨_,ho,rfl⟩ ⟨_,ho2,rfl⟩ noFill_tuple_add seq_tuple_add PySem.F.slot_tuple_add PySem.F.entry_tuple_add (PySem.F.args_tuple_add_2 _ _)
   (tuple_addW0 a b its.toArray its2.toArray n n2 dd dd2 sl sl2 (by simp [e])) ⟨ho,ho2,⟨.ref b,H,I,rfl,q0 hx⟩⟩
 ·exact zmd pins s σ H _ _ v u Q I rx ry ⟨a,b,xs,ys,rfl,rfl,ha,hb,hx,hz,q1 hx,q2 hx⟩
theorem zoq:JOp X (binaryOp .Add) (zmx X.K):=⟨zmZ⟩
variable {pos p2:Pos} {a b:Expr} {ta tb:TE}
theorem zlU (ha:JE X a ta) (hb:JE X b tb) : JE X (.Subscript a (.Slice none (some b) none p2) pos) (tSl (rSlT X.K) ta zcl (zeL tb)):=⟨zdf zn4 ha.h zfR (zdp hb.h)⟩
end
end L2
namespace Prf
open PySem L2 Wr
end Prf
namespace L2
open PySem PySem.Spec PyProof.Rows
section
variable {X:Cx}
def rSlS:V → Option Int → Option Int → Hp → VK → Prop:=fun x lo hi H Q=>∃ z,x = .str z ∧ z.length ≤ sizeLine ∧ Q (.str (Txt.slice z lo hi)) H
theorem zlp:SlR X rSlS:=by
 intro pins s σ H x v vl vu lo hi sl Q I rx hs pl pu ⟨z,e,hz,q⟩
 subst e
 obtain ⟨t,rfl⟩:=rx
 refine ⟨"str", _,PySem.F.slot_str_getitem.lookup,typeIs_str _ _ _,?_⟩
 obtain ⟨o,ho,hc,hd⟩:=hs
 have fin:(Txt.slice z lo hi).length ≤ sizeLine ∧ ∀ t' k,EP X pins σ Q (.str (Txt.slice z lo hi) t') { s with toks:=k }:=⟨Nat.le_trans (Txt.slice_le z _ _) hz,fun t' k=>⟨.str _,H,I.tok k,⟨_,rfl⟩,q⟩⟩
 cases pl with
 | none =>
  cases pu with
  | none=>exact wpAny_getItem_str_slice (l:=none) (u:=none) (st:=none) ⟨o,ho,hc,hd⟩ rfl (post_val_or_str fin)
  | int j u=>exact wpAny_getItem_str_slice (l:=none) (u:=some (j,u)) (st:=none) ⟨o,ho,hc,hd⟩ rfl (post_val_or_str fin)
 | int i t1 =>
  cases pu with
  | none=>exact wpAny_getItem_str_slice (l:=some (i,t1)) (u:=none) (st:=none) ⟨o,ho,hc,hd⟩ rfl (post_val_or_str fin)
  | int j u=>exact wpAny_getItem_str_slice (l:=some (i,t1)) (u:=some (j,u)) (st:=none) ⟨o,ho,hc,hd⟩ rfl (post_val_or_str fin)
variable {pos p2 apos cpos:Pos} {a b o:Expr} {ta tb to:TE} {t:TA}
theorem zoi:JIx X rIxS:=⟨znD⟩
theorem zmT (ha:JE X a ta) (hb:JE X b tb) : JE X (.Subscript a (.Slice none (some b) none p2) pos) (tSl rSlS ta zcl (zeL tb)):=⟨zdf zlp ha.h zfR (zdp hb.h)⟩
theorem zlW (ha:JE X a ta) (hb:JE X b tb) : JE X (.Subscript a (.Slice (some b) none none p2) pos) (tSl rSlS ta (zeL tb) zcl):=⟨zdf zlp ha.h (zdp hb.h) zfR⟩
theorem zlh:JOp X (binaryOp .Add) (fun x y H Q=>∃ i j,x = .str i ∧ y = .str j ∧ i.length + j.length ≤ sizeLine ∧ Q (.str (i ++ j)) H):=⟨zhQ⟩
theorem zm8:JC X (.builtin "len") (fun xs H Q=>∃ z,xs = [.str z] ∧ z.length ≤ sizeLine ∧ Q (.int z.length) H):=⟨zgI⟩
def rJoin (K:PySem.W.Frag) : V → List V → Hp → VK → Prop:=fun x xs H Q=>∃ (z:Str) (p:Addr) (ys:List Str),x = .str z ∧ xs = [.ref p] ∧ SqL K H p (ys.map V.str) ∧ (ys.map (·.length)).sum + ys.length * z.length ≤ 16777216 ∧ Q (.str (Txt.join z ys)) H
theorem zgz:∀ {ys:List Str} {us:List Value},Vals (ys.map V.str) us → StrsAre us ys
 | [],_,.nil=>.nil
 | y :: ys,_,.cons r t=>by obtain ⟨k,rfl⟩:=r; exact .cons y k (zgz t)
theorem zmF:MtR X "str.join" (rJoin X.K):=by
 intro pins s σ H x xs v us Q I rx r ⟨z,p,ys,e1,e2,hp,hw,q⟩
 subst e1 e2
 obtain ⟨t,rfl⟩:=rx
 obtain ⟨u,rfl,ru⟩:=vals1 r
 cases ru
 obtain ⟨its,rv,pl,_⟩:=I.list hp
 exact join_list pl.isList (by simpa using zgz rv) hw fun t' k=>⟨.str _,H,I.tok k,⟨_,rfl⟩,q⟩
theorem zoj {e1:Expr} (ho:JE X o to) (ha:JA X [e1] t) (hbase:attributeBase o "join" X.env (eval o X.env) = eval o X.env:=by rfl) (hline:(apos.endLine == cpos.line) = true:=by rfl) :
  JE X (.Call (.Attribute o "join" apos) [e1] [] cpos) (tBM X.K "str" (rJoin X.K) to t) :=
 ⟨zkq PySem.F.plainAttrs_str PySem.F.slot_str_join PySem.F.type_str_join zmF ho.h ha.h hbase (by rw [ha.hd.star,(Nsts.star ha.rs _)]; rfl) hline (ha.hd.star _ _) (ha.rs.no _ _)⟩
end
end L2
namespace Prf
open PySem L2 Wr PySem.Builtin PySem.Builtin.Str
theorem zkv {n j:Nat} (h:j ≤ n) : strSliceIndices none (some (j:Int)) 1 n = List.range j:=by
 unfold strSliceIndices sliceRange
 simp only [show (1:Int) > 0 by decide,if_true]
 rw [if_neg (show ¬ ((j:Int) < 0) by omega)]
 have e:max 0 (min (j:Int) (n:Int)) = (j:Int):=by omega
 rw [e]
 have c:(if (0:Int) < (j:Int) then ((j:Int) - 0 + 1 - 1) / 1 else 0).toNat = j:=by
  split
  ·rw [Int.ediv_one]; omega
  ·omega
 rw [c]
 conv=>rhs; rw [← List.map_id (List.range j)]
 exact List.map_congr_left fun k _=>by show (0 + 1 * (k:Int)).toNat = k; omega
theorem zky {n i:Nat} (h:i ≤ n) : strSliceIndices (some (i:Int)) none 1 n = (List.range (n - i)).map (· + i):=by
 unfold strSliceIndices sliceRange
 simp only [show (1:Int) > 0 by decide,if_true]
 rw [if_neg (show ¬ ((i:Int) < 0) by omega)]
 have e:max 0 (min (i:Int) (n:Int)) = (i:Int):=by omega
 rw [e]
 have c:(if (i:Int) < (n:Int) then ((n:Int) - (i:Int) + 1 - 1) / 1 else 0).toNat = n - i:=by
  split
  ·rw [Int.ediv_one]; omega
  ·omega
 rw [c]
 exact List.map_congr_left fun k _=>by show ((i:Int) + 1 * (k:Int)).toNat = k + i; omega
theorem zem {α:Type} {l:List α} : ∀ {j:Nat},j ≤ l.length → (List.range j).filterMap (fun k=>l[k]?) = l.take j
 | 0,_=>rfl
 | j + 1,h=>by
  have hl:j < l.length:=by omega
  rw [List.range_succ,List.filterMap_append,zem (by omega),List.take_succ_eq_append_getElem hl]
  simp [hl]
theorem ziy {α:Type} {l:List α} {i:Nat} (h:i ≤ l.length) : ((List.range (l.length - i)).map (· + i)).filterMap (fun k=>l[k]?) = l.drop i:=by
 rw [List.filterMap_map]
 have e:((fun k=>l[k]?) ∘ fun x=>x + i) = fun k=>(l.drop i)[k]?:=by
  funext k
  show l[k + i]? = (l.drop i)[k]?
  rw [List.getElem?_drop,Nat.add_comm]
 rw [e,zem (by rw [List.length_drop]; exact Nat.le_refl _),List.take_of_length_le (by rw [List.length_drop]; exact Nat.le_refl _)]
theorem str_len (z:PySem.Str) : z.length = z.cps.toList.length:=by show z.cps.size = _; simp
theorem zhU {z:PySem.Str} {j:Nat} (h:j ≤ z.length) : (Txt.slice z none (some (j:Int))).cps.toList = z.cps.toList.take j:=by
 unfold Txt.slice
 rw [zkv h]
 split
 ·rename_i c
  have:j = z.length:=by simpa using c
  rw [this,str_len,List.take_length]
 ·show ((List.range j).filterMap (fun k=>z.cps[k]?)).toArray.toList = _
  rw [← zem (by rw [← str_len]; exact h)]
  simp
theorem zhW {z:PySem.Str} {i:Nat} (h:i ≤ z.length) : (Txt.slice z (some (i:Int)) none).cps.toList = z.cps.toList.drop i:=by
 unfold Txt.slice
 rw [zky h]
 split
 ·rename_i c
  have:z.length - i = z.length:=by simpa using c
  rcases Nat.eq_zero_or_pos z.length with hz | hz
  ·have:z.cps.toList = []:=List.length_eq_zero_iff.mp (by rw [← str_len]; exact hz)
   rw [this]; simp
  ·have:i = 0:=by omega
   rw [this,List.drop_zero]
 ·show (((List.range (z.length - i)).map (· + i)).filterMap (fun k=>z.cps[k]?)).toArray.toList = _
  rw [← ziy (by rw [← str_len]; exact h),str_len]
  simp
theorem zfo (a b:PySem.Str) : (a ++ b).cps.toList = a.cps.toList ++ b.cps.toList:=by
 show (a.cps ++ b.cps).toList = _
 simp
theorem join_none (ys:List PySem.Str) : (Txt.join "" ys).cps.toList = ys.flatMap fun y=>y.cps.toList:=by
 unfold Txt.join glued
 have e0:(Str.ofString "").cps = #[]:=by decide +kernel
 have go:∀ (l:List PySem.Str) (acc:Array Nat),(l.foldl (fun acc p=>acc ++ (Str.ofString "").cps ++ p.cps) acc).toList = acc.toList ++ l.flatMap fun y=>y.cps.toList:=by
  intro l
  induction l with
  | nil=>intro acc; simp
  | cons y l ih=>intro acc; rw [List.foldl_cons,ih,e0]; simp
 rw [go]
 cases ys with
 | nil=>simp; decide +kernel
 | cons y ys=>simp
theorem zmB {w:List Nat} {a b:Nat} {i:Nat} (h:i < w.length) (ne:a ≠ b) : w.take i ++ [a] ++ w.drop (i + 1) ≠ w.take i ++ [b] ++ w.drop (i + 1):=fun e=>by
 have e1:=congrArg (·[i]?) e
 simp only [List.append_assoc,List.getElem?_append_right (show (w.take i).length ≤ i by rw [List.length_take]; omega)] at e1
 have l:i - (w.take i).length = 0:=by rw [List.length_take]; omega
 rw [l] at e1
 simp at e1
 exact ne e1
end Prf
namespace L2
open PySem PySem.Spec PyProof.Rows
section
variable {X:Cx} {pins:List (Addr × Obj)} {σ:St} {H:Hp} {s:Shared}
def zlx (K:PySem.W.Frag) : List V → Hp → VK → Prop:=fun xs H Q=>∃ (l:Addr) (ys:List V) (ks:List (List Int)),xs = [.ref l] ∧ SqL K H l ys ∧ Paired (RowAt H) ys ks ∧ (∀ k ∈ ks,k ≠ []) ∧ ks.length < 64 ∧
 ∀ (D:Addr) (ys':List V) (ks':List (List Int)),H D = none → Paired (RowAt H) ys' ks' → ks'.Perm ks → (ks'.Pairwise fun a b=>lexI b a = false) → Q (.ref D) (upd H D (.lst ys'))
theorem zgr (I:Inv X pins σ H s) : ∀ {ys:List V} {us:List Value} {ks:List (List Int)},Vals ys us → Paired (RowAt H) ys ks → (∀ k ∈ ks,k ≠ []) → KeysAt s.heap us ks
 | _,_,_,.nil,.nil,_=>.nil
 | _,_,_,.cons r t,.cons p q,ne=>by
  obtain ⟨a,e1,e2⟩:=p
  subst e1
  cases r
  exact .cons (ziU I e2 (ne _ List.mem_cons_self)) (zgr I t q fun k hk=>ne k (List.mem_cons_of_mem _ hk))
theorem zg7:∀ {ys:List V} {ks:List (List Int)},Paired (RowAt H) ys ks → ys.map (kfI H) = ks
 | _,_,.nil=>rfl
 | _,_,.cons r t=>by rw [List.map_cons,zhB r,zg7 t]
theorem zeQ (hc:X.calm = true) : zcZ X (.builtin "sorted") (zlx X.K):=by
 intro pins s σ H xs us Q I r ⟨l,ys,ks,e,hl,pr,ne,h64,q⟩
 subst e
 obtain ⟨u,rfl,ru⟩:=Vals.one r
 cases ru
 obtain ⟨its,rv,pl,_⟩:=I.list hl
 have hlen:=rv.length
 have lk:=Paired.length pr
 have l64:its.length < 64:=by omega
 have hz:its.length ≤ sizeLine:=zcb l64
 have K0:=zgr I rv pr ne
 rw [← zg7 pr] at K0
 refine Calls.call_function_entry kind_sorted plain_sorted entry_sorted (args_sorted1 _) ?_
 unfold Builtin.«sorted»
 refine wpAny_bind (m:=checkCount "sorted" 1 1 _) (wpAny_pure (wpAny_bind (collect_list pl.isList (wpAny_bind (wpAny_newList ?_ hz)) hz)))
 have k1:∀ b o,s.heap.get? b = some o → ((s.heap.push (seqObj "list" #[] 0)).update s.heap.objs.size (Obj.mapSeq (· ++ its.toArray))).get? b = some o:=fun b o q=>by
  have hb:b < s.heap.objs.size:=Heap.lt_size q
  rw [Heap.get?_update_other _ _ (Nat.ne_of_gt hb)]
  exact Heap.get?_push_of_some _ q
 have hsz:s.heap.objs.size ≤ ((s.heap.push (seqObj "list" #[] 0)).update s.heap.objs.size (Obj.mapSeq (· ++ its.toArray))).objs.size:=by
  rw [Heap.size_update,Heap.size_push]; exact Nat.le_succ _
 generalize ((s.heap.push (seqObj "list" #[] 0)).update s.heap.objs.size (Obj.mapSeq (· ++ its.toArray))) = h3 at k1 hsz ⊢
 have hoL:(h3.push (seqObj "list" its.toArray 0)).get? h3.objs.size = some (seqObj "list" its.toArray 0):=Heap.get?_push_size _ rfl
 have K3:KeysAt (h3.push (seqObj "list" its.toArray 0)) its (ys.map (kfI H)):=Paired.mapP K0 fun v k x=>x.keeps fun b o hb _=>Heap.get?_push_of_some _ (k1 b o hb)
 refine wpAny_bind (wpAny_holding (wpAny_call_entry (s:={ s with heap:=h3.push (seqObj "list" its.toArray 0) }) slot_list_sort ⟨_,hoL,rfl⟩ entry_list_sort (zcc hoL rv K3 l64 fun zs ws v1 v2 v3=>⟨_,rfl,?_⟩) (args_list_sort _)))
 obtain ⟨e,he⟩:=sortedHeap_at (out:=ws.toArray) hoL
 have row:∀ y ∈ zs,RowAt H y (kfI H y):=fun y hy=>by
  have go:∀ {xs:List V} {ks:List (List Int)},Paired (RowAt H) xs ks → y ∈ xs → RowAt H y (kfI H y):=by
   intro xs ks p
   induction p with
   | nil=>intro z; cases z
   | cons r _ ih =>
    intro z
    rcases List.mem_cons.mp z with e | z
    ·subst e; rw [zhB r]; exact r
    ·exact ih z
  exact go pr (v2.mem_iff.mp hy)
 have pys:∀ l:List V,(∀ y ∈ l,RowAt H y (kfI H y)) → Paired (RowAt H) l (l.map (kfI H)):=fun l=>by
  induction l with
  | nil=>intro _; exact .nil
  | cons y l ih=>intro h; exact .cons (h y List.mem_cons_self) (ih fun z hz=>h z (List.mem_cons_of_mem _ hz))
 have hl':zs.length < 64:=by rw [v2.length_eq]; omega
 refine wpAny_pure ⟨_,rfl,.ref h3.objs.size,_,I.laid (a:=h3.objs.size) (o:=.lst zs) (t':=s.toks) (fun b ob z=>?_) hsz ⟨zcb hl',ws,e,v1,he⟩,rfl,q h3.objs.size zs (zs.map (kfI H)) (I.hok.fresh hsz) (pys zs row) ?_ (List.pairwise_map.mpr v3)⟩
 ·have hb:b < h3.objs.size:=Heap.lt_size (k1 b ob z)
  rw [sortedHeap_old (Nat.ne_of_lt hb) (by rw [Heap.size_push]; exact Nat.lt_succ_of_lt hb)]
  exact Heap.get?_push_of_some _ (k1 b ob z)
 ·rw [← zg7 pr]
  exact v2.map _
theorem zmI (hc:X.calm = true:=by rfl) : JC X (.builtin "sorted") (zlx X.K):=⟨zeQ hc⟩
end
end L2
namespace Prf
open PySem L2 Wr
def top (i:Nat) : Stmt:=PySem.Challenge.pw_whenrows_k61_keys.main.body.getD i (.Pass ⟨0,0,0,0⟩)
noncomputable def zgq : {s:Stmt // top 5 = s}:=⟨.FunctionDef _ _ _ _ _ _ _ _ _ _,rfl⟩
noncomputable abbrev zcK:Stmt:=zgq.1
noncomputable def zeT : {s:Stmt // top 7 = s}:=⟨.FunctionDef _ _ _ _ _ _ _ _ _ _,rfl⟩
noncomputable abbrev zb8:Stmt:=zeT.1
noncomputable def zcf : {s:Stmt // top 8 = s}:=⟨.FunctionDef _ _ _ _ _ _ _ _ _ _,rfl⟩
noncomputable abbrev zaX:Stmt:=zcf.1
noncomputable def zhR : {s:Stmt // top 9 = s}:=⟨.FunctionDef _ _ _ _ _ _ _ _ _ _,rfl⟩
noncomputable abbrev zd1:Stmt:=zhR.1
noncomputable def zei : {s:Stmt // top 10 = s}:=⟨.FunctionDef _ _ _ _ _ _ _ _ _ _,rfl⟩
noncomputable abbrev zbI:Stmt:=zei.1
noncomputable def zg5 : {s:Stmt // top 11 = s}:=⟨.FunctionDef _ _ _ _ _ _ _ _ _ _,rfl⟩
noncomputable abbrev zdi:Stmt:=zg5.1
noncomputable def zfB : {s:Stmt // top 12 = s}:=⟨.FunctionDef _ _ _ _ _ _ _ _ _ _,rfl⟩
noncomputable abbrev zcm:Stmt:=zfB.1
noncomputable def zgF : {s:Stmt // top 14 = s}:=⟨.FunctionDef _ _ _ _ _ _ _ _ _ _,rfl⟩
noncomputable abbrev zcV:Stmt:=zgF.1
noncomputable def zbO : {s:Stmt // top 15 = s}:=⟨.FunctionDef _ _ _ _ _ _ _ _ _ _,rfl⟩
noncomputable abbrev zaN:Stmt:=zbO.1
noncomputable def zgB : {s:Stmt // top 16 = s}:=⟨.FunctionDef _ _ _ _ _ _ _ _ _ _,rfl⟩
noncomputable abbrev zcS:Stmt:=zgB.1
noncomputable def zgW : {s:Stmt // top 21 = s}:=⟨.FunctionDef _ _ _ _ _ _ _ _ _ _,rfl⟩
noncomputable abbrev zdn:Stmt:=zgW.1
noncomputable def zgu : {s:Stmt // top 22 = s}:=⟨.FunctionDef _ _ _ _ _ _ _ _ _ _,rfl⟩
noncomputable abbrev zcF:Stmt:=zgu.1
noncomputable def zcD : {s:Stmt // top 24 = s}:=⟨.FunctionDef _ _ _ _ _ _ _ _ _ _,rfl⟩
noncomputable abbrev za4:Stmt:=zcD.1
noncomputable def zeB : {s:Stmt // top 26 = s}:=⟨.FunctionDef _ _ _ _ _ _ _ _ _ _,rfl⟩
noncomputable abbrev zb6:Stmt:=zeB.1
noncomputable def zeM : {s:Stmt // top 28 = s}:=⟨.FunctionDef _ _ _ _ _ _ _ _ _ _,rfl⟩
noncomputable abbrev zbW:Stmt:=zeM.1
noncomputable def zeV : {s:Stmt // top 29 = s}:=⟨.FunctionDef _ _ _ _ _ _ _ _ _ _,rfl⟩
noncomputable abbrev zb2:Stmt:=zeV.1
noncomputable def zeG : {s:Stmt // top 30 = s}:=⟨.FunctionDef _ _ _ _ _ _ _ _ _ _,rfl⟩
noncomputable abbrev zb0:Stmt:=zeG.1
noncomputable def zfu : {s:Stmt // top 31 = s}:=⟨.FunctionDef _ _ _ _ _ _ _ _ _ _,rfl⟩
noncomputable abbrev zco:Stmt:=zfu.1
noncomputable def zeS : {s:Stmt // top 32 = s}:=⟨.FunctionDef _ _ _ _ _ _ _ _ _ _,rfl⟩
noncomputable abbrev zbP:Stmt:=zeS.1
noncomputable def zdV : {s:Stmt // top 33 = s}:=⟨.FunctionDef _ _ _ _ _ _ _ _ _ _,rfl⟩
noncomputable abbrev zbH:Stmt:=zdV.1
noncomputable def zee : {s:Stmt // top 34 = s}:=⟨.FunctionDef _ _ _ _ _ _ _ _ _ _,rfl⟩
noncomputable abbrev zbF:Stmt:=zee.1
noncomputable def zey : {s:Stmt // top 35 = s}:=⟨.FunctionDef _ _ _ _ _ _ _ _ _ _,rfl⟩
noncomputable abbrev zbE:Stmt:=zey.1
noncomputable def zep : {s:Stmt // top 36 = s}:=⟨.FunctionDef _ _ _ _ _ _ _ _ _ _,rfl⟩
noncomputable abbrev zbJ:Stmt:=zep.1
noncomputable def zfw : {s:Stmt // top 37 = s}:=⟨.FunctionDef _ _ _ _ _ _ _ _ _ _,rfl⟩
noncomputable abbrev zcj:Stmt:=zfw.1
noncomputable def zeN : {s:Stmt // top 38 = s}:=⟨.FunctionDef _ _ _ _ _ _ _ _ _ _,rfl⟩
noncomputable abbrev zbU:Stmt:=zeN.1
noncomputable def zgL : {s:Stmt // top 39 = s}:=⟨.FunctionDef _ _ _ _ _ _ _ _ _ _,rfl⟩
noncomputable abbrev zdm:Stmt:=zgL.1
noncomputable def zeJ : {s:Stmt // top 40 = s}:=⟨.FunctionDef _ _ _ _ _ _ _ _ _ _,rfl⟩
noncomputable abbrev zbY:Stmt:=zeJ.1
noncomputable def zdK : {s:Stmt // top 41 = s}:=⟨.FunctionDef _ _ _ _ _ _ _ _ _ _,rfl⟩
noncomputable abbrev zby:Stmt:=zdK.1
noncomputable def zdo : {s:Stmt // top 42 = s}:=⟨.FunctionDef _ _ _ _ _ _ _ _ _ _,rfl⟩
noncomputable abbrev zbq:Stmt:=zdo.1
noncomputable def zfE : {s:Stmt // top 43 = s}:=⟨.FunctionDef _ _ _ _ _ _ _ _ _ _,rfl⟩
noncomputable abbrev zcr:Stmt:=zfE.1
noncomputable def zeW : {s:Stmt // top 44 = s}:=⟨.FunctionDef _ _ _ _ _ _ _ _ _ _,rfl⟩
noncomputable abbrev zbX:Stmt:=zeW.1
noncomputable def zfF : {s:Stmt // top 45 = s}:=⟨.FunctionDef _ _ _ _ _ _ _ _ _ _,rfl⟩
noncomputable abbrev zcs:Stmt:=zfF.1
noncomputable def zf7 : {s:Stmt // top 46 = s}:=⟨.FunctionDef _ _ _ _ _ _ _ _ _ _,rfl⟩
noncomputable abbrev zcJ:Stmt:=zf7.1
noncomputable def zeO : {s:Stmt // top 47 = s}:=⟨.FunctionDef _ _ _ _ _ _ _ _ _ _,rfl⟩
noncomputable abbrev zb5:Stmt:=zeO.1
noncomputable def zms : {s:Stmt // top 48 = s}:=⟨.FunctionDef _ _ _ _ _ _ _ _ _ _,rfl⟩
noncomputable abbrev ze7:Stmt:=zms.1
noncomputable def zfX : {s:Stmt // inClass (top 18) 0 = s}:=⟨.FunctionDef _ _ _ _ _ _ _ _ _ _,rfl⟩
noncomputable abbrev zck:Stmt:=zfX.1
noncomputable def ziZ : {s:Stmt // inClass (top 18) 1 = s}:=⟨.FunctionDef _ _ _ _ _ _ _ _ _ _,rfl⟩
noncomputable abbrev zfx:Stmt:=ziZ.1
noncomputable def zis : {s:Stmt // inClass (top 18) 2 = s}:=⟨.FunctionDef _ _ _ _ _ _ _ _ _ _,rfl⟩
noncomputable abbrev zfJ:Stmt:=zis.1
noncomputable def zf8 : {s:Stmt // inClass (top 18) 3 = s}:=⟨.FunctionDef _ _ _ _ _ _ _ _ _ _,rfl⟩
noncomputable abbrev zcO:Stmt:=zf8.1
section
variable {P:Program} {w:World} {K:PySem.W.Frag} {mg:Str → Option Value} {base:Heap}
def keyO:Option Int → List Int
 | none=>[0,0]
 | some a=>[1,a]
def zg0 (K:PySem.W.Frag) : Sp:=fun vs H Q _=>∃ (p:Addr) (a b:Option Int),vs = [.ref p] ∧ SqT K H p [vO a,vO b] ∧ ∀ t,H t = none → Q (.ref t) (upd H t (.tup ((keyO a).map V.int)))
theorem zl7:FnScope ["stretch"] ["stretch"] (zad zbI):=⟨rfl,rfl,rfl,by decide +kernel,rfl,by decide +kernel,by decide +kernel⟩
theorem zla {f:Addr} {fd:FuncData} (F:Fun K "start_order" "start_order" zbI f fd) : FnOk P w K mg base CX0 1 f fd ["stretch"] (zg0 K):=by
 refine F.okJ zl7 (fun vs H Q E h=>?_) (fun cdv A outer s H vs Q E hr h=>?_)
 ·obtain ⟨p,a,b,rfl,_⟩:=h
  rfl
 ·obtain ⟨p,a,b,rfl,hp,k⟩:=h
  refine ⟨_,zab (s_if (zi2 ( (e_ix zbg (e_v 0) e_i))) (zag (zau (zbs (ac e_i (a1 e_i))))) zaS)
   (zag (zau (zbs (ac e_i (a1 (e_ix zbg (e_v 0) e_i)))))),?_⟩
  refine ⟨_,rfl,p,_,0,_,rfl,rfl,hp,rfl,_,rfl,?_⟩
  cases a with
  | none =>
   refine iteT ?_
   exact ⟨by show 2 ≤ sizeLine; decide,fun t ht=>k t ht⟩
  | some a =>
   refine iteF ?_
   exact ⟨_,rfl,p,_,0,_,rfl,rfl,hp,rfl,by show 2 ≤ sizeLine; decide,fun t ht=>k t ht⟩
def zgO (K:PySem.W.Frag) : Sp:=fun vs H Q _=>∃ (p:Addr) (a b s:Option Int),vs = [.ref p,vO s] ∧ SqT K H p [vO a,vO b] ∧ Q (.bl (zdd (a,b) s)) H
theorem zmS:FnScope ["stretch","start"] ["stretch","start"] (zad zdi):=⟨rfl,rfl,rfl,by decide +kernel,rfl,by decide +kernel,by decide +kernel⟩
theorem zkY {f:Addr} {fd:FuncData} (F:Fun K "reaches" "reaches" zdi f fd) : FnOk P w K mg base CX0 1 f fd ["stretch","start"] (zgO K):=by
 refine F.okJ zmS (fun vs H Q E h=>?_) (fun cdv A outer s H vs Q E hr h=>?_)
 ·obtain ⟨p,a,b,s,rfl,_⟩:=h
  rfl
 ·obtain ⟨p,a,b,st,rfl,hp,k⟩:=h
  refine ⟨_,zag (zau (e_or (zh9 ( (e_v 1))) (e_or (zh9 ( (e_ix zbg (e_v 0) e_i))) (zha (zjQ o_le (e_v 1) (e_ix zbg (e_v 0) e_i)))))),?_⟩
  refine ⟨_,rfl,_,rfl,?_⟩
  cases st with
  | none=>exact iteT k
  | some c =>
   refine iteF ?_
   refine ⟨_,rfl,p,_,1,_,rfl,rfl,hp,rfl,_,rfl,?_⟩
   cases b with
   | none=>exact iteT k
   | some b =>
    refine iteF ?_
    exact ⟨_,rfl,_,rfl,p,_,1,_,rfl,rfl,hp,rfl,_,_,rfl,rfl,k⟩
def zg9:Sp:=fun vs H Q _=>∃ (a b:Option Int),vs = [vO a,vO b] ∧ Q (vO (zdg a b)) H
theorem zmt:FnScope ["one","other"] ["one","other"] (zad zcm):=⟨rfl,rfl,rfl,by decide +kernel,rfl,by decide +kernel,by decide +kernel⟩
theorem zkd {f:Addr} {fd:FuncData} (F:Fun K "later_end" "later_end" zcm f fd) (mx:mg "max" = none) : FnOk P w K mg base CX0 1 f fd ["one","other"] zg9:=by
 refine F.okJ zmt (fun vs H Q E h=>?_) (fun cdv A outer s H vs Q E hr h=>?_)
 ·obtain ⟨a,b,rfl,_⟩:=h
  rfl
 ·obtain ⟨a,b,rfl,k⟩:=h
  refine ⟨_,zab (s_if (JW.jt (w_or (zi2 ( (e_v 0))) (zfy (zi2 ( (e_v 1)))))) (zag (zau e_n)) zaS)
   (zag (zau (e_cb zoG mx PyProof.Rows.boot_max (ac (e_v 0) (a1 (e_v 1)))))),?_⟩
  refine ⟨_,rfl,_,rfl,?_⟩
  cases a with
  | none=>exact iteT (iteT (by cases b <;> exact k))
  | some a =>
   refine iteF ?_
   refine ⟨_,rfl,_,rfl,?_⟩
   cases b with
   | none=>exact iteT k
   | some b =>
    refine iteF ?_
    refine ⟨_,rfl,_,rfl,a,b,rfl,?_⟩
    have e:(if b > a then b else a) = max a b:=by split <;> omega
    rw [e]
    exact k
end
def kfH (H:Hp) : V → List Int
 | .ref t=>(match H t with
  | some (.tup (.int a :: _))=>[1,a]
  | _=>[0,0])
 | _=>[0,0]
theorem zez {H:Hp} {v:V} {s:Stt} (h:StAt H v s) : kfH H v = keyO s.1:=by
 obtain ⟨t,rfl,h2⟩:=h
 obtain ⟨a,b⟩:=s
 cases a <;> simp only [kfH,h2,vO,keyO]
theorem zm6 (H:Hp) (v:V) : kfH H v ≠ []:=by
 unfold kfH
 split
 ·split <;> simp
 ·simp
theorem zi1 {a b:Option Int} (h:lexI (keyO b) (keyO a) = false) : leO a b:=by
 cases a with
 | none=>trivial
 | some x =>
  cases b with
  | none=>simp [keyO,lexI] at h
  | some y=>simp [keyO,lexI] at h; show x ≤ y; omega
theorem zeo {H:Hp} : ∀ {ys:List V} {ts:List Stt},StsAt H ys ts → za0 (kfH H) ys → ts.Pairwise fun s q=>leO s.1 q.1
 | _,_,.nil,_=>.nil
 | _, _, .cons r t, h => by
  obtain ⟨h1,h2⟩:=List.pairwise_cons.mp h
  refine List.pairwise_cons.mpr ⟨fun q hq=>?_,zeo t h2⟩
  have go:∀ {ys:List V} {ts:List Stt},StsAt H ys ts → q ∈ ts → ∃ y ∈ ys,StAt H y q:=by
   intro ys ts p
   induction p with
   | nil=>intro z; cases z
   | cons r _ ih =>
    intro z
    rcases List.mem_cons.mp z with e | z
    ·subst e; exact ⟨_,List.mem_cons_self,r⟩
    ·obtain ⟨y,hy,k⟩:=ih z
     exact ⟨y,List.mem_cons_of_mem _ hy,k⟩
  obtain ⟨y,hy,k⟩:=go t hq
  have:=h1 y hy
  rw [zez r,zez k] at this
  exact zi1 this
theorem zkZ {α:Type} {l:List α} {i:Nat} {x q:α} (h:l[i]? = some x) (hq:q ∈ l.drop (i + 1)) : q ∈ l.drop i:=by
 obtain ⟨hi,e⟩:=List.getElem?_eq_some_iff.mp h
 rw [List.drop_eq_getElem_cons hi]
 exact List.mem_cons_of_mem _ hq
theorem ziX {l:List Stt} (h:l.Pairwise fun s q=>leO s.1 q.1) {i:Nat} {x:Stt} (hx:l[i]? = some x) : ∀ q ∈ l.drop (i + 1),leO x.1 q.1:=by
 obtain ⟨hi,e⟩:=List.getElem?_eq_some_iff.mp hx
 have h2:(l.drop i).Pairwise fun s q=>leO s.1 q.1:=h.sublist (List.drop_sublist _ _)
 rw [List.drop_eq_getElem_cons hi,e] at h2
 exact (List.pairwise_cons.mp h2).1
section
variable {P:Program} {w:World} {K:PySem.W.Frag} {mg:Str → Option Value} {base:Heap}
def zdN:Sp:=fun vs H Q _=>∃ (l:Addr) (ss:List Stt),vs = [.ref l] ∧ SpanAt H l ss ∧ (∀ s ∈ ss,okS s) ∧ ss.length < 64 ∧
 ∀ (r:Addr) (H':Hp) (zs:List Stt),Same H H' → H r = none → SpanAt H' r zs → Can zs → zs.length ≤ ss.length → (∀ m,zac m zs = zac m ss) → Q (.ref r) H'
theorem zdO:FnScope ["stretches","span","start","end"] ["stretches"] (zad zd1):=⟨rfl,rfl,rfl,by decide +kernel,rfl,by decide +kernel,by decide +kernel⟩
structure TidInv (H:Hp) (l sp D:Addr) (ys:List V) (ts:List Stt) (i:Nat) (σ:St) (H2:Hp) : Prop where
 ex:∃ (o1 o2:Option V) (zs:List V) (acc:List Stt),σ = [some (.ref l),some (.ref sp),o1,o2] ∧ Same H H2 ∧ H2 D = some (.lst ys) ∧ StsAt H2 ys ts ∧ H2 sp = some (.lst zs) ∧ StsAt H2 zs acc ∧
  Tidy acc (ts.take i) ∧ (∀ init p,acc = init ++ [p] → ∀ q ∈ ts.drop i,leO p.1 q.1) ∧ acc.length ≤ i ∧ (acc = [] → i = 0)
theorem ziT {f:Addr} {fd:FuncData} (F:Fun K "tidied" "tidied" zd1 f fd) (ms:mg "sorted" = none) (FO:FnP P w K mg base 1 "start_order" ["stretch"] (zg0 K))
  (FR:FnP P w K mg base 1 "reaches" ["stretch","start"] (zgO K)) (FL:FnP P w K mg base 1 "later_end" ["one","other"] zg9) : FnOk P w K mg base CX0 4 f fd ["stretches"] zdN:=by
 refine F.okJ zdO (fun vs H Q E h=>?_) (fun cdv A outer s H vs Q E hr h=>?_)
 ·obtain ⟨l,ss,rfl,_⟩:=h
  rfl
 ·obtain ⟨l,ss,rfl,⟨xs,hl,hs⟩,ok,h64,k⟩:=h
  refine ⟨_,zab (zar 1 zdO.nd (zbl a0))
   (zab (zbd (zat (zmm FO hr ms (a1 (e_v 0)))) (zbv (zaf (g_n 2 zdO.nd) (zaf (g_n 3 zdO.nd) zaR)))
    (zag (s_if (JW.jt (w_and (zoA (e_v 1)) (zdD (zcz (e_fn FR hr (ac (e_ix zaY (e_v 1) (e_un zej e_i)) (a1 (e_v 2))))))))
     (zag (zl2 (zbs (ac (e_ix zbg (e_ix zaY (e_v 1) (e_un zej e_i)) e_i)
      (ac (e_fn FL hr (ac (e_ix zbg (e_ix zaY (e_v 1) (e_un zej e_i)) e_i) (a1 (e_v 3)))) a0))) (zoF (e_v 1) (e_un zej e_i) znH)))
     (zag (zdB (e_v 1) (zbs (ac (e_v 2) (a1 (e_v 3)))))))))
   (zag (zau (e_v 1)))),?_⟩
  refine ⟨Nat.zero_le _,fun sp hsp=>?_⟩
  have s0:Same H (upd H sp (.lst [])):=(Same.refl H).upd hsp
  have hlen:xs.length = ss.length:=Paired.length hs
  refine ⟨_,rfl,l,xs,kfH (upd H sp (.lst [])),rfl,SqL.of (s0 _ _ hl),by omega,fun x _=>zm6 _ x,fun H2 y sm hy=>?_,fun D H' ys sm hD hD' hp hso=>?_⟩
  ·obtain ⟨st,_,sy⟩:=zcx (hs.same s0) hy
   rw [zez sy]
   obtain ⟨t,rfl,ht⟩:=sy
   exact ⟨t,st.1,st.2,rfl,SqT.of (sm _ _ ht),fun t' ht'=>⟨t',rfl,zaa,(Same.refl _).upd ht'⟩⟩
  have s1:Same H H':=s0.trans sm
  obtain ⟨ts,pt,st⟩:=zg6 hp (hs.same s1)
  have rise:ts.Pairwise fun s q=>leO s.1 q.1:=by
   refine zeo st ?_
   refine hso.imp_of_mem fun {a b} ha hb hab=>?_
   obtain ⟨u,_,ua⟩:=zcx (hs.same s0) (hp.mem_iff.mp ha)
   obtain ⟨v,_,vb⟩:=zcx (hs.same s0) (hp.mem_iff.mp hb)
   rw [zez ua,zez vb] at hab
   rw [zez (ua.same sm),zez (vb.same sm)]
   exact hab
  have oks:∀ s ∈ ts,okS s:=fun s hs'=>ok s (pt.mem_iff.mp hs')
  have hH'sp:H' sp = some (.lst []):=sm _ _ zaa
  have nD:H D = none:=s0.free hD
  have nDsp:D ≠ sp:=fun e=>by rw [e,zaa] at hD; cases hD
  refine ⟨D,rfl,⟨_,SqL.of hD'⟩,zaA (K:=K) (a:=D) (xs:=ys) (TidInv H l sp D ys ts) ⟨none,none,[],[],rfl,s1,hD',st,hH'sp,.nil,zh1,fun init p e=>absurd e (by simp),Nat.le_refl _,fun _=>rfl⟩
   (fun i σ H2 _ t=>let ⟨_,_,_,_,_,_,h,_⟩:=t.ex; SqL.of h) ?_ ?_⟩
  ·rintro i x σ H2 hx ⟨o1,o2,zs,acc,rfl,sm2,hD2,st2,hsp2,sz,T,hle,hal,hnil⟩
   obtain ⟨q,hq,t,rfl,ht⟩:=zaj st2 hx
   have hqm:q ∈ ts:=List.mem_of_getElem? hq
   have lzs:zs.length = acc.length:=Paired.length sz
   have hi:i < ys.length:=(List.getElem?_eq_some_iff.mp hx).1
   have lys:ys.length < 64:=by rw [hp.length_eq]; omega
   have lrest:∀ z ∈ ts.drop (i + 1),leO q.1 z.1:=ziX rise hq
   refine ⟨t,_,rfl,SqT.of ht,rfl,_,_,rfl,_,_,rfl,rfl,?_⟩
   have app:∀ (acc':List Stt),Tidy (acc ++ [q]) (ts.take (i + 1)) → zeX (tBM K "list" zbG (tVar 1) (zal (tTup (zal (tVar 2) (zal (tVar 3) tNil))) tNil)) { nx:=TidInv H l sp D ys ts (i + 1),rt:=Q,bk:=fun σ' H'=>tRet (tVar 1) { nx:=fun _ H'=>Q .non H',rt:=Q } σ' H',ct:=TidInv H l sp D ys ts (i + 1) }
     [some (.ref l),some (.ref sp),some (vO q.1),some (vO q.2)] H2:=fun _ T'=>by
    refine ⟨_,rfl,.inl ⟨rfl,_,SqL.of hsp2⟩,_,rfl,_,rfl,by show 2 ≤ sizeLine; decide,fun t' ht'=>?_⟩
    have nt:sp ≠ t':=zaq hsp2 ht'
    have sm3:Same H2 (upd H2 t' (.tup [vO q.1,vO q.2])):=(Same.refl _).upd ht'
    refine ⟨sp,zs,_,rfl,rfl,sm3 _ _ hsp2,zae (by omega),?_⟩
    refine ⟨_,_,zs ++ [.ref t'],acc ++ [q],rfl,fun b o e=>?_,?_,?_,zaa,?_,T',fun init p e z hz=>?_,by rw [List.length_append,List.length_singleton]; omega,fun e=>absurd e (by simp)⟩
    ·rw [zai (zaq e hsp)]; exact sm3 _ _ (sm2 b o e)
    ·rw [zai nDsp]; exact sm3 _ _ hD2
    ·exact (st2.same sm3).wr (zaJ (sm3 _ _ hsp2))
    ·exact StsAt.wr (zaJ (sm3 _ _ hsp2)) (zah (R:=StAt (upd H2 t' (.tup [vO q.1,vO q.2]))) ⟨t',rfl,zaa⟩ (sz.same sm3))
    ·have e2:=(List.append_inj_right' e rfl)
     have e3:q = p:=by simpa using e2
     rw [← e3]
     exact lrest z hz
   rcases List.eq_nil_or_concat acc with rfl | ⟨init,p,rfl⟩
   ·-- nothing yet
    cases sz
    have h0:i = 0:=hnil rfl
    refine ⟨_,rfl,false,.inl ⟨[],SqL.of hsp2,rfl⟩,iteF (iteF (app [] ?_))⟩
    subst h0
    rw [take_snoc hq,List.take_zero]
    exact zh5 (oks q hqm)
   ·rw [List.concat_eq_append] at *
    obtain ⟨zi,z,rfl,sz1,tz,rfl,hz⟩:=zdG sz
    have hpq:leO p.1 q.1:=hle init p rfl q (by rw [List.drop_eq_getElem_cons (List.getElem?_eq_some_iff.mp hq).1,(List.getElem?_eq_some_iff.mp hq).2]; exact List.mem_cons_self)
    refine ⟨_,rfl,true,.inl ⟨_,SqL.of hsp2,by simp⟩,iteT ?_⟩
    refine ⟨_,rfl,_,rfl,sp,_,-1,.ref tz,rfl,rfl,SqL.of hsp2,zda zi _,_,rfl,tz,p.1,p.2,q.1,rfl,SqT.of hz,_,rfl,?_⟩
    cases e:zdd (p.1,p.2) q.1 with
    | false =>
     refine iteF (app [] ?_)
     rw [take_snoc hq]
     exact zko T hpq e (oks q hqm)
    | true =>
     refine iteT ?_
     refine ⟨_,rfl,_,rfl,sp,_,-1,.ref tz,rfl,rfl,SqL.of hsp2,zda zi _,tz,_,0,_,rfl,rfl,SqT.of hz,rfl,_,rfl,_,rfl,sp,_,-1,.ref tz,rfl,rfl,SqL.of hsp2,zda zi _,tz,_,1,_,rfl,rfl,SqT.of hz,rfl,_,rfl,p.2,q.2,rfl,?_⟩
     refine ⟨by show 2 ≤ sizeLine; decide,fun t' ht'=>?_⟩
     have nt:sp ≠ t':=zaq hsp2 ht'
     have sm3:Same H2 (upd H2 t' (.tup [vO p.1,vO (zdg p.2 q.2)])):=(Same.refl _).upd ht'
     have hix:ixN (zi ++ [V.ref tz]).length (-1) = some zi.length:=by
      unfold ixN
      rw [List.length_append,List.length_singleton,if_neg (by decide),if_pos (by omega)]
      congr 1
      omega
     refine ⟨_,rfl,_,rfl,sp,_,-1,zi.length,rfl,rfl,sm3 _ _ hsp2,hix,?_⟩
     have eset:(zi ++ [V.ref tz]).set zi.length (.ref t') = zi ++ [.ref t']:=by simp
     rw [eset]
     refine ⟨_,_,zi ++ [.ref t'],init ++ [(p.1,zdg p.2 q.2)],rfl,fun b o e=>?_,?_,?_,zaa,?_,?_,fun init' p' e z hz'=>?_,?_,fun e=>absurd e (by simp)⟩
     ·rw [zai (zaq e hsp)]; exact sm3 _ _ (sm2 b o e)
     ·rw [zai nDsp]; exact sm3 _ _ hD2
     ·exact (st2.same sm3).wr (zaJ (sm3 _ _ hsp2))
     ·exact StsAt.wr (zaJ (sm3 _ _ hsp2)) (zah (R:=StAt (upd H2 t' (.tup [vO p.1,vO (zdg p.2 q.2)]))) ⟨t',rfl,zaa⟩ (StsAt.same sm3 sz1))
     ·rw [take_snoc hq]
      exact zil T hpq e (oks q hqm)
     ·have e2:=(List.append_inj_right' e rfl)
      have e3:(p.1,zdg p.2 q.2) = p':=by simpa using e2
      rw [← e3]
      exact hle init p rfl z (zkZ hq hz')
     ·rw [List.length_append,List.length_singleton] at *; omega
  ·-- return span
   rintro σ H2 ⟨o1,o2,zs,acc,rfl,sm2,hD2,st2,hsp2,sz,T,hle,hal,hnil⟩
   have lt:ts.length = ys.length:=(Paired.length st2).symm
   rw [← lt,List.take_length] at T
   exact ⟨_,rfl,k sp H2 acc sm2 hsp ⟨zs,hsp2,sz⟩ T.can (by have:=pt.length_eq; omega) fun m=>(T.eq m).trans (zhb pt m)⟩
end
section
variable {P:Program} {w:World} {K:PySem.W.Frag} {mg:Str → Option Value} {base:Heap}
def zbZ:Sp:=fun vs H Q _=>∃ (a b:Option Int),vs = [vO a,vO b] ∧ Q (.bl (okB (a,b))) H
theorem zfj:FnScope ["start","end"] ["start","end"] (zad zb8):=⟨rfl,rfl,rfl,by decide +kernel,rfl,by decide +kernel,by decide +kernel⟩
theorem zfC {f:Addr} {fd:FuncData} (F:Fun K "is_stretch" "is_stretch" zb8 f fd) : FnOk P w K mg base CX0 1 f fd ["start","end"] zbZ:=by
 refine F.okJL zfj (fun vs H Q E h=>?_) (fun cdv A outer s H vs Q E hr h=>?_)
 ·refine zaT ?_; intro G_; obtain ⟨_,_,rfl,_⟩:=h
  rfl
 ·intro X_ D_; refine zaT ?_; intro G_; obtain ⟨a,b,rfl,k⟩:=h
  refine ⟨_,(zag (zau (e_or (zh9 (e_v 0)) (e_or (zh9 (e_v 1)) (zha (zjQ o_lt (e_v 0) (e_v 1))))))),?_⟩
  refine (exg _ rfl ((exg _ rfl ?_)))
  cases a with
  | none=>exact iteT k
  | some a =>
   refine iteF (exg _ rfl ((exg _ rfl ?_)))
   cases b with
   | none=>exact iteT k
   | some b=>exact iteF (exg _ rfl ((exg _ rfl ⟨_,exg _ rfl ⟨rfl,k⟩⟩)))
def tNev:TS:=fun _ _ _=>False
theorem zgj {X:Cx} {st:Stmt} : JS X st tNev:=⟨fun _ _ _ _ _ _ h=>h.elim⟩
def zaV:Sp:=fun vs H Q E=>∃ (a b:Option Int),vs = [vO a,vO b] ∧ okS (a,b) ∧ Q .non H
theorem zcC:FnScope ["start","end"] ["start","end"] (zad zaX):=⟨rfl,rfl,rfl,by decide +kernel,rfl,by decide +kernel,by decide +kernel⟩
theorem zcB {f:Addr} {fd:FuncData} (F:Fun K "refuse_no_stretch" "refuse_no_stretch" zaX f fd) (FI:FnP P w K mg base 1 "is_stretch" ["start","end"] zbZ) :
  FnOk P w K mg base CX0 2 f fd ["start","end"] zaV:=by
 refine F.okJL zcC (fun vs H Q E h=>?_) (fun cdv A outer s H vs Q E hr h=>?_)
 ·refine zaT ?_; intro G_; obtain ⟨_,_,rfl,_⟩:=h
  rfl
 ·intro X_ D_; refine zaT ?_; intro G_; obtain ⟨a,b,rfl,ok,k1⟩:=h
  refine ⟨_,(zag (s_if (zdA (zcz (e_fn FI hr (ac (e_v 0) (a1 (e_v 1)))))) (zag zgj) zaS)),?_⟩
  refine (exg _ rfl ((exg _ rfl ⟨a,b,rfl,exg _ rfl ?_⟩)))
  rw [zmH.mpr ok]
  exact iteF k1
def zaM:Sp:=fun vs H Q E=>∃ (a:Addr) (xs:List V) (fs:List Fact),vs = [.ref a] ∧ H a = some (.lst xs) ∧ Paired (FactAt H) xs fs ∧ fs.length ≤ 100000 ∧
 (∀ f ∈ fs,f.1.length = zdj fs) ∧ ∀ H',Same H H' → Q .non H'
theorem za8:FnScope ["facts","place","fact"] ["facts"] (zad zaN):=⟨rfl,rfl,rfl,by decide +kernel,rfl,by decide +kernel,by decide +kernel⟩
theorem zbT {f:Addr} {fd:FuncData} (F:Fun K "refuse_unlike_widths" "refuse_unlike_widths" zaN f fd) (B:Blts mg) :
  FnOk P w K mg base CX0 1 f fd ["facts"] zaM:=by
 refine F.okJL za8 (fun vs H Q E h=>?_) (fun cdv A outer s H vs Q E hr h=>?_)
 ·refine zaT ?_; intro G_; obtain ⟨_,_,_,rfl,_⟩:=h
  rfl
 ·intro X_ D_; refine zaT ?_; intro G_; obtain ⟨a,xs,fs,rfl,ha,hp,hz,alike,k1⟩:=h
  have nd:=za8.nd
  refine ⟨_,(zag (zbd (zlj B.enumerate (a1 (e_v 0))) (zbv (zaf (g_n 1 nd) (zaf (g_n 2 nd) zaR)))
    (zag (s_if (zaW o_ne (e_cb zcM B.len PySem.boot_len (a1 (e_ix zbg (e_v 2) e_i))) (e_cb zcM B.len PySem.boot_len (a1 (e_ix zbg (e_ix zaY (e_v 0) e_i) e_i))))
     (zag zgj) zaS)))),?_⟩
  have lx:xs.length = fs.length:=Paired.length hp
  refine ⟨_,rfl,a,rfl,⟨xs,SqL.of ha⟩,zjW (K:=K) (a:=a) (xs:=xs) (fun i σ H'=>∃ o1 o2,σ = [some (.ref a),o1,o2] ∧ Same H H' ∧ ∀ f ∈ fs.take i,f.1.length = zdj fs)
   ⟨none,none,rfl,Same.refl H,fun f h=>by simp at h⟩ (by rintro i σ H' _ ⟨_,_,_,sm,_⟩; exact SqL.of (sm _ _ ha)) ?_ ?_⟩
  ·intro J_ E_; rintro i x T σ H' hx ⟨o1,o2,rfl,sm,good⟩ hT
   obtain ⟨f,hf,t,p,rfl,ht,hpp⟩:=zaj hp hx
   have s1:Same H' (upd H' T (.tup [.int i,.ref t])):=(Same.refl H').upd hT
   have u1:upd H' T (.tup [.int i,.ref t]) T = some (.tup [.int i,.ref t]):=zaa
   generalize upd H' T (.tup [.int i,.ref t]) = H1 at s1 u1 ⊢
   have s01:=sm.trans s1
   have hi:i < fs.length:=(List.getElem?_eq_some_iff.mp hf).1
   obtain ⟨g,fs',rfl⟩ : ∃ g fs',fs = g :: fs':=by cases fs with | nil=>simp at hi | cons g fs'=>exact ⟨g,fs',rfl⟩
   obtain ⟨y,ys,rfl⟩ : ∃ y ys,xs = y :: ys:=by cases xs with | nil=>simp at lx | cons y ys=>exact ⟨y,ys,rfl⟩
   obtain ⟨t0,p0,rfl,ht0,hp0⟩ : FactAt H y g:=by cases hp with | cons r _=>exact r
   refine ⟨T,_,rfl,SqT.of u1,rfl,_,_,rfl,_,_,rfl,rfl,?_⟩
   refine (exg _ rfl ⟨t,_,0,exg _ rfl ⟨rfl,SqT.of (s01 _ _ ht),rfl,p,exg _ rfl ⟨.inr (SqT.of (s01 _ _ hpp)),exg _ rfl ⟨a,_,0,exg _ rfl ⟨rfl,SqL.of (s01 _ _ ha),(show atI _ ((0:Nat) : Int) = _ from za1 rfl),t0,_,0,exg _ rfl ⟨rfl,SqT.of (s01 _ _ ht0),rfl,p0,exg _ rfl ⟨.inr (SqT.of (s01 _ _ hp0)),rfl,exg _ rfl ?_⟩⟩⟩⟩⟩⟩⟩)
   refine ite2 (fun hc=>?_) (fun hc=>?_)
   ·exfalso
    have z:f.1.length = zdj (g :: fs'):=alike f (List.mem_of_getElem? hf)
    have z':f.1.length = g.1.length:=z
    simp [z'] at hc
   ·have eq:f.1.length = zdj (g :: fs'):=by
     have:f.1.length = g.1.length:=by
      by_cases z:f.1.length = g.1.length
      ·exact z
      ·exfalso; exact hc (by simp; lia)
     exact this
    refine ⟨_,exg _ rfl ⟨s01,fun f' h'=>?_⟩⟩
    rw [take_snoc hf] at h'
    rcases List.mem_append.mp h' with z | z
    ·exact good f' z
    ·rw [List.mem_singleton.mp z]; exact eq
  ·intro σ H' h_
   refine zaT ?_; intro G_; obtain ⟨o1,o2,rfl,sm,good⟩:=h_
   rw [lx,List.take_length] at good
   exact k1 _ sm
end
section
variable {P:Program} {w:World} {K:PySem.W.Frag} {mg:Str → Option Value} {base:Heap}
def zb3:Sp:=fun vs H Q E=>∃ (a:Addr) (xs:List V) (fs:List Fact),vs = [.ref a] ∧ H a = some (.lst xs) ∧ Paired (FactAt H) xs fs ∧ fs.length ≤ 5000 ∧ (∀ f ∈ fs,f.1 ≠ []) ∧
 (∀ f ∈ fs,okS f.2) ∧ (∀ f ∈ fs,f.1.length = zdj fs) ∧ (∃ rs:List (List Int),rs.length < 64 ∧ ∀ f ∈ fs,f.1 ∈ rs) ∧ (∀ r,(told fs r).length < 64) ∧
  ∀ (D:Addr) (H':Hp) (es:List (List Int × List Stt)),Same H H' → H D = none → SheetN H H' D es → ShOf fs es → Q (.ref D) H'
theorem zd4:FnScope ["facts","fact","told","row","start","end"] ["facts"] (zad zcV):=⟨rfl,rfl,rfl,by decide +kernel,rfl,by decide +kernel,by decide +kernel⟩
theorem zgY {f:Addr} {fd:FuncData} (F:Fun K "sheet_of" "sheet_of" zcV f fd) (B:Blts mg) (FR:FnP P w K mg base 2 "refuse_no_stretch" ["start","end"] zaV)
  (FW:FnP P w K mg base 1 "refuse_unlike_widths" ["facts"] zaM) (FT:FnP P w K mg base 4 "tidied" ["stretches"] zdN) : FnOk P w K mg base CX0 5 f fd ["facts"] zb3:=by
 refine F.okJL zd4 (fun vs H Q E h=>?_) (fun cdv A outer s H vs Q E hr h=>?_)
 ·refine zaT ?_; intro G_; obtain ⟨_,_,_,rfl,_⟩:=h
  rfl
 ·intro X_ D_; refine zaT ?_; intro G_; obtain ⟨a,xs,fs,rfl,ha,hp,hz,ne,oks0,same,⟨rs,rs64,rsm⟩,few,k⟩:=h
  have nd:=zd4.nd
  have nd2:(["row","told"] : List Str).Nodup:=by decide +kernel
  refine ⟨_,(zab (zbd (zat (e_v 0)) (g_n 1 nd)
    (zag (zhC (e_fn FR hr (ac (e_ix zbg (e_v 1) e_i) (a1 (e_ix zbg (e_v 1) e_i)))))))
   (zab (zhC (e_fn FW hr (a1 (e_v 0))))
   (zab (zhL 2 nd ziL)
   (zab (zbd (zat (e_v 0)) (zbv (zaf (g_n 3 nd) (zaf (g_n 4 nd) (zaf (g_n 5 nd) zaR))))
    (zag (zdB (zhz hr (e_v 2) (ac (e_v 3) (a1 (zbl a0)))) (zbs (ac (e_v 4) (a1 (e_v 5)))))))
   (zag (zau (zaZ (Nc:=["row","told"]) (js:=[none,some 2]) (g:=(zaw 0)) (tt:=tYes) (te:=(tTup (zal (tVar 0) (zal (zcG zdN [] E0 (zal (zmf (tVar 1) (tVar 0)) tNil)) tNil))))
   (zaB rfl rfl rfl rfl (fun x c h=>by (obtain ⟨rfl,rfl⟩ : x = _ ∧ c = _:=(by simpa using h)); rfl) rfl rfl rfl) (zat (e_cb zlL B.sorted PyProof.Rows.boot_sorted (a1 (e_v 2))))
   (fun pins C s3 H3 fp=>⟨(g_n 0 nd2),.inl ⟨rfl,rfl⟩,(zbs (ac (e_v 0) (a1 (e_fn FT hr (a1 (zjX hr (e_v 1) (e_v 0)))))))⟩)))))))),?_⟩
  have lx:xs.length = fs.length:=Paired.length hp
  with_reducible refine zjR ?_; intro E_ U_
  refine ⟨_,rfl,a,rfl,⟨xs,SqL.of ha⟩,zgh (K:=K) (a:=a) (xs:=xs) (fun i σ H'=>∃ o1,σ = [some (.ref a),o1,none,none,none,none] ∧ Same H H' ∧ ∀ f ∈ fs.take i,okS f.2)
   ⟨none,rfl,Same.refl H,fun f h=>by simp at h⟩ (by rintro i σ H' _ ⟨_,_,sm,_⟩; exact SqL.of (sm _ _ ha)) ?_ ?_⟩
  ·intro J_ E_; intro i x σ H' hx h_
   refine zaT ?_; intro G_; obtain ⟨o1,rfl,sm,good⟩:=h_
   refine zaT ?_; intro G_; obtain ⟨f,hf,t,p,rfl,ht,hpp⟩:=zaj hp hx
   refine (exg _ rfl ⟨t,_,1,exg _ rfl ⟨rfl,SqT.of (sm _ _ ht),rfl,exg _ rfl ⟨t,_,2,exg _ rfl ⟨rfl,SqT.of (sm _ _ ht),rfl,f.2.1,f.2.2,rfl,oks0 f (List.mem_of_getElem? hf),exg _ rfl ⟨sm,fun f' h'=>?_⟩⟩⟩⟩⟩)
   rw [take_snoc hf] at h'
   rcases List.mem_append.mp h' with z | z
   ·exact good f' z
   ·rw [List.mem_singleton.mp z]; exact oks0 f (List.mem_of_getElem? hf)
  intro σ H1 h_
  refine zaT ?_; intro G_; obtain ⟨o1,rfl,s1,oks⟩:=h_
  rw [lx,List.take_length] at oks
  with_reducible refine zjR ?_; intro E_ U_
  refine (exg _ rfl ⟨a,xs,fs,rfl,s1 _ _ ha,zaH s1 hp,by lia,same,fun H2 s2=>?_⟩)
  have s02:=s1.trans s2
  refine fun pd hpd=>?_
  have td0:TdI H2 (upd H2 pd (.dT [])) pd [] [] []:=⟨zaa,.nil,(fun q h=>nomatch h),(fun q h=>nomatch h),.nil,(fun q h=>nomatch h),(Same.refl H2).upd hpd,hpd,(fun q h=>nomatch h),fun r=>by simp⟩
  have rows_le:∀ {fs':List Fact} {td:Td},(∀ f ∈ fs',f ∈ fs) → (td.map (·.1)).Nodup → (∀ r,r ∈ td.map (·.1) ↔ r ∈ fs'.map (·.1) ∨ r ∈ ([] : List (List Int))) → td.length < 64:=by
   intro fs' td sub nd' rows
   have:=zax nd' (m:=rs) fun r hr=>by
    rcases (rows r).mp hr with z | z
    ·refine zaT ?_; intro G_; obtain ⟨f,hf,rfl⟩:=List.mem_map.mp z
     exact rsm f (sub f hf)
    ·cases z
   rw [List.length_map] at this
   lia
  with_reducible refine zmb ?_; intro E_ U_ S_
  refine ⟨_,rfl,a,rfl,⟨xs,SqL.of (td0.same _ _ (s02 _ _ ha))⟩,zgh (K:=K) (a:=a) (xs:=xs) (fun i σ H'=>∃ (td:Td) (o1 o3 o4 o5:Option V),σ = [some (.ref a),o1,some (.ref pd),o3,o4,o5] ∧ TdI H2 H' pd (fs.take i) td [])
   ⟨[],_,none,none,none,rfl,td0⟩ (by rintro i σ H' _ ⟨_,_,_,_,_,_,h⟩; exact SqL.of (h.same _ _ (s02 _ _ ha))) ?_ ?_⟩
  ·intro J_ E_; intro i x σ H' hx h_
   refine zaT ?_; intro G_; obtain ⟨td,o1,o3,o4,o5,rfl,I⟩:=h_
   refine zaT ?_; intro G_; obtain ⟨f,hf,t,p,rfl,ht,hpp⟩:=zaj hp hx
   have s':=s02.trans I.same
   have hfm:f ∈ fs:=List.mem_of_getElem? hf
   refine ⟨t,exg _ rfl ⟨SqT.of (s' _ _ ht),rfl,_,exg _ rfl ⟨_,exg _ rfl ⟨_,exg _ rfl ⟨rfl,?_⟩⟩⟩⟩⟩
   refine (exg _ rfl ⟨.inr (.inr (.inl ⟨rfl,.inr ⟨_,I.at'⟩⟩)),exg _ rfl ⟨Nat.zero_le _,fun D hD=>?_⟩⟩)
   have s3:Same H' (upd H' D (.lst [])):=(Same.refl H').upd hD
   have u3:upd H' D (.lst []) D = some (.lst []):=zaa
   generalize upd H' D (.lst []) = H3 at s3 u3 ⊢
   have I3:=I.sm s3
   have lk:(zcd td).length < sizeLine:=by
    unfold zcd; rw [List.length_map]
    have:=rows_le (fs':=fs.take i) (fun f hf=>List.mem_of_mem_take hf) I.nd I.rows
    exact zae (by lia)
   have htup:H3 p = some (.tup ((f.1.map Sum.inl:List Key).map kV)):=by rw [zdl]; exact s3 _ _ (s' _ _ hpp)
   have app:∀ (H5:Hp) (td5:Td) (ex:List (List Int)) (q:List Int × Addr × List Stt),TdI H2 H5 pd (fs.take i) td5 ex → q ∈ td5 → q.1 = f.1 → (∀ r ∈ ex,r = q.1) →
     (tyV K "list" (.ref q.2.1) H5 ∧ zal (tTup (zal (tVar 4) (zal (tVar 5) tNil))) tNil [some (.ref a),o1,some (.ref pd),some (.ref p),some (vO f.2.1),some (vO f.2.2)] H5 fun xs H6=>zbG (.ref q.2.1) xs H6 fun _ H7 =>
      ∃ (td:Td) (o1' o3 o4 o5:Option V),[some (V.ref a),o1,some (.ref pd),some (.ref p),some (vO f.2.1),some (vO f.2.2)] = [some (.ref a),o1',some (.ref pd),o3,o4,o5] ∧ TdI H2 H7 pd (fs.take (i + 1)) td []):=by
    intro H5 td5 ex q I5 hq eq hex
    refine zaT ?_; intro G_; obtain ⟨ys,hy,sy⟩:=I5.lst q hq
    refine ⟨.inl ⟨rfl,_,SqL.of hy⟩,exg _ rfl ((exg _ rfl ⟨by show 2 ≤ sizeLine; decide,fun u hu=>?_⟩))⟩
    have s6:Same H5 (upd H5 u (.tup [vO f.2.1,vO f.2.2])):=(Same.refl H5).upd hu
    have u6:upd H5 u (.tup [vO f.2.1,vO f.2.2]) u = some (.tup [vO f.2.1,vO f.2.2]):=zaa
    generalize upd H5 u (.tup [vO f.2.1,vO f.2.2]) = H6 at s6 u6 ⊢
    have ly:ys.length ≤ 5000:=by
     have h1:=Paired.length sy
     have h2:=congrArg List.length (I5.grp q hq)
     have h3:(told (fs.take i) q.1).length ≤ (fs.take i).length:=by unfold told; rw [List.length_map]; exact List.length_filter_le _ _
     rw [List.length_take] at h3
     lia
    have I7:=(I5.sm s6).app (st:=f.2) hq hex (s6 _ _ hy) (sy.same s6) u6
    rw [eq,← take_snoc (x:=f) hf] at I7
    exact ⟨q.2.1,ys,exg _ rfl ⟨rfl,s6 _ _ hy,Nat.lt_of_le_of_lt ly (by decide),_,_,_,_,exg _ rfl I7⟩⟩
   refine ⟨pd,p,.ref D,zcd td,f.1.map Sum.inl,rfl,rfl,I3.at',htup,lk,?_⟩
   by_cases hr':f.1 ∈ td.map (·.1)
   ·obtain ⟨q,hq,eq⟩:=List.mem_map.mp hr'
    have hv:=zhy I3.nd hq
    rw [eq] at hv
    rw [hv]
    exact app H3 td [] q I3 hq eq fun r h=>nomatch h
   ·rw [zfk hr']
    have fD:H2 D = none:=I.same.free hD
    have nD:D ∉ td.map (·.2.1):=fun z=>by
     refine zaT ?_; intro G_; obtain ⟨q,hq,e⟩:=List.mem_map.mp z
     refine zaT ?_; intro G_; obtain ⟨_,e',_⟩:=I.lst q hq
     rw [e,hD] at e'
     cases e'
    exact app _ _ [f.1] (f.1,D,[]) (I3.add hr' (ne f hfm) u3 fD nD) (List.mem_append_right _ (by simp)) rfl fun r h=>by simpa using h
  intro σ H3 h_
  refine zaT ?_; intro G_; obtain ⟨td,o1,o3,o4,o5,rfl,I⟩:=h_
  rw [lx,List.take_length] at I
  have l64:td.length < 64:=rows_le (fs':=fs) (fun f hf=>hf) I.nd I.rows
  have lk:(zcd td).length < 64:=by unfold zcd; rw [List.length_map]; exact l64
  refine (exg _ rfl ⟨pd,pd,_,exg _ rfl ⟨I.known,.inl rfl,lk,fun D2 ys2 ks' hD2 p2 pm2 pw2=>?_⟩⟩)
  have t3:Same H3 (upd H3 D2 (.lst ys2)):=(Same.refl H3).upd hD2
  have u3:upd H3 D2 (.lst ys2) D2 = some (.lst ys2):=zaa
  have p3:=ziD t3 p2
  generalize upd H3 D2 (.lst ys2) = Hb at t3 u3 p3 ⊢
  have Ib:=I.sm t3
  have ly2:ys2.length = ks'.length:=Paired.length p3
  have lks:ks'.length < 64:=by rw [pm2.length_eq,List.length_map]; exact l64
  have s0b:=s02.trans Ib.same
  refine ⟨D2,rfl,⟨_,SqL.of u3⟩,fun D3 hD3=>?_⟩
  have f3:H D3 = none:=s0b.free hD3
  refine zhV (K:=K) (a:=D2) (xs:=ys2) (fun i _ σ H4=>∃ (o:Option V) (zs:List V) (es:List (List Int × List Stt)),σ = [o,some (.ref pd)] ∧ Same Hb H4 ∧ H4 D3 = some (.lst zs) ∧ Paired (EntN H H4 D3) zs es ∧ es.map (·.1) = ks'.take i ∧ ∀ e ∈ es,Can e.2 ∧ e.2.length ≤ 63 ∧ ∀ m,zac m e.2 = zac m (told fs e.1))
   ⟨none,[],[],rfl,(Same.refl Hb).upd hD3,zaa,.nil,rfl,fun e h=>nomatch h⟩ (by rintro i _ σ H4 _ ⟨_,_,_,_,sm,_⟩; exact SqL.of (sm _ _ u3)) ?_ ?_
  ·intro J_; intro i x _ σ H4 hx h_
   refine zaT ?_; intro G_; obtain ⟨o,zs,es,rfl,sm,h4,pr,em,good⟩:=h_
   refine zaT ?_; intro G_; obtain ⟨row,er,t,rfl,ht⟩:=zaj p3 hx
   have hrow:row ∈ td.map (·.1):=pm2.mem_iff.mp (List.mem_of_getElem? er)
   refine zaT ?_; intro G_; obtain ⟨q,hq,rfl⟩:=List.mem_map.mp hrow
   have I4:=Ib.sm sm
   have hv:=zhy I4.nd hq
   have ht4:H4 t = some (.tup ((q.1.map Sum.inl:List Key).map kV)):=by rw [zdl]; exact sm _ _ ht
   have eg:=I.grp q hq
   refine (exg _ rfl ((exg _ rfl ((exg _ rfl ⟨pd,exg _ rfl ⟨.inr ⟨_,_,t,.inl I4.at',rfl,ht4,hv.symm⟩,q.2.1,q.2.2,rfl,I4.lst q hq,fun st hst=>?_,by rw [eg]; exact few _,fun r H5 ss s5 hr5 hspan can lss eqs=>⟨by show 2 ≤ sizeLine; decide,fun u hu=>?_⟩⟩⟩)))))
   ·rw [eg] at hst
    exact oks _ (zaF.mp hst)
   have s6:Same H5 (upd H5 u (.tup [.ref t,.ref r])):=(Same.refl H5).upd hu
   have u6:upd H5 u (.tup [.ref t,.ref r]) u = some (.tup [.ref t,.ref r]):=zaa
   generalize upd H5 u (.tup [.ref t,.ref r]) = H6 at s6 u6 ⊢
   have s46:=s5.trans s6
   have h6:=s46 _ _ h4
   have lz:zs.length = es.length:=Paired.length pr
   have le:es.length = (ks'.take i).length:=by rw [← em,List.length_map]
   rw [List.length_take] at le
   have nr:r ≠ D3:=fun z=>by rw [z,h4] at hr5; cases hr5
   have fr:H r = none:=(s0b.trans sm).free hr5
   have few':=few q.1
   refine ⟨zs,h6,zae (by lia),[],_,zs ++ [.ref u],es ++ [(q.1,ss)],rfl,(sm.trans s46).upd hD3,zaa,?_,by rw [List.map_append,em,take_snoc er]; rfl,fun e he=>?_⟩
   ·have wr:∀ {v:V} {e:List Int × List Stt},EntN H H6 D3 v e → EntN H (upd H6 D3 (.lst (zs ++ [.ref u]))) D3 v e:=fun ⟨t,p,q,a1,a2,a3,a4,a5,a6⟩=>⟨t,p,q,a1,zao (zaJ h6) _ _ a2,zao (zaJ h6) _ _ a3,a4.wr (zaJ h6) a6,a5,a6⟩
    exact zah (R:=EntN H (upd H6 D3 (.lst (zs ++ [.ref u]))) D3) (wr (e:=(q.1,ss)) ⟨u,t,r,rfl,u6,(sm.trans s46) _ _ ht,hspan.same s6,fr,nr⟩) (Paired.mapP pr (by rintro _ _ ⟨t,p,q,a1,a2,a3,a4,a5,a6⟩; exact wr ⟨t,p,q,a1,s46 _ _ a2,s46 _ _ a3,a4.same s46,a5,a6⟩))
   ·rcases List.mem_append.mp he with z | z
    ·exact good e z
    ·rw [List.mem_singleton.mp z]
     refine ⟨can,?_,fun m=>by rw [eqs m,eg]⟩
     rw [eg] at lss
     show ss.length ≤ 63
     lia
  ·intro _ σ H4 h_
   refine zaT ?_; intro G_; obtain ⟨o,zs,es,rfl,sm,h4,pr,em,good⟩:=h_
   rw [ly2,List.take_length] at em
   refine k D3 H4 es (s0b.trans sm) f3 ⟨zs,h4,pr⟩ ⟨by rw [em]; exact pw2,by rw [em]; exact (pm2.nodup_iff).mpr I.nd,fun r=>?_,fun e he=>(good e he).1,fun e he=>(good e he).2.1,fun e he=>(good e he).2.2⟩
   rw [em,pm2.mem_iff,I.rows]
   simp
end
theorem zc9 {es:List Ent} {i:Nat} {e:Ent} (h:es[i]? = some e) : zak (es.take (i + 1)) = zak (es.take i) ++ e.2.map fun s=>(e.1,s):=by
 rw [take_snoc h]; unfold zak; rw [List.flatMap_append]; simp
theorem zdr (es:List Ent) (i:Nat) : (zak (es.take i)).length ≤ (zak es).length:=by
 have:zak es = zak (es.take i) ++ zak (es.drop i):=by
  have e:=List.take_append_drop i es
  conv=>lhs; rw [← e]
  unfold zak; rw [List.flatMap_append]
 rw [this,List.length_append]; omega
section
variable {P:Program} {w:World} {K:PySem.W.Frag} {mg:Str → Option Value} {base:Heap}
def zcT:Sp:=fun vs H Q _=>∃ (a:Addr) (es:List Ent),vs = [.ref a] ∧ SheetAt H a es ∧ (zak es).length ≤ 4900 ∧
 ∀ (r:Addr) (H':Hp) (xs:List V),Same H H' → H r = none → H' r = some (.lst xs) → Paired (FactAt H') xs (zak es) → Q (.ref r) H'
theorem zd8:FnScope ["entries","facts","row","span"] ["entries"] (zad zcS):=⟨rfl,rfl,rfl,by decide +kernel,rfl,by decide +kernel,by decide +kernel⟩
theorem zg8 {f:Addr} {fd:FuncData} (F:Fun K "facts_of" "facts_of" zcS f fd) : FnOk P w K mg base CX0 1 f fd ["entries"] zcT:=by
 refine F.okJ zd8 (fun vs H Q E h=>?_) (fun cdv A outer s H vs Q E hr h=>?_)
 ·obtain ⟨_,_,rfl,_⟩:=h
  rfl
 ·obtain ⟨a,es,rfl,⟨xs,ha,hs⟩,hz,k⟩:=h
  have nd:=zd8.nd
  have nd3:(["start","end","row"] : List Str).Nodup:=by decide +kernel
  refine ⟨_,(zab (zar 1 nd (zbl a0))
   (zab (zbd (zat (e_v 0)) (zbv (zaf (g_n 2 nd) (zaf (g_n 3 nd) zaR)))
    (zag (zn5 (e_v 1) (a1c (zaZ (Nc:=["start","end","row"]) (js:=[none,none,some 2]) (g:=(gTup K 2 (zbp (zaw 0) (zbp (zaw 1) gNil)))) (tt:=tYes) (te:=(tTup (zal (tVar 2) (zal (tVar 0) (zal (tVar 1) tNil)))))
   (zaB rfl rfl rfl rfl (fun x c h=>by (obtain ⟨rfl,rfl⟩ : x = _ ∧ c = _:=(by simpa using h)); rfl) rfl rfl rfl) (zat (e_v 3))
   (fun pins C s3 H3 fp=>⟨(zbv (zaf (g_n 0 nd3) (zaf (g_n 1 nd3) zaR))),.inl ⟨rfl,rfl⟩,(zbs (ac (e_v 2) (ac (e_v 0) (a1 (e_v 1)))))⟩))))))
   (zag (zau (e_v 1))))),?_⟩
  have lx:xs.length = es.length:=Paired.length hs
  refine ⟨Nat.zero_le _,fun b hb=>?_⟩
  have s0:Same H (upd H b (.lst [])):=(Same.refl H).upd hb
  refine ⟨_,rfl,a,rfl,⟨xs,SqL.of (s0 _ _ ha)⟩,zaA (K:=K) (a:=a) (xs:=xs) (fun i σ H'=>∃ (o1 o2:Option V) (ys:List V),σ = [some (.ref a),some (.ref b),o1,o2] ∧ Same H H' ∧ H' b = some (.lst ys) ∧ Paired (FactAt H') ys (zak (es.take i)))
   ⟨none,none,[],rfl,s0,zaa,.nil⟩ (fun i σ H' _ ⟨_,_,_,_,sm,_⟩=>SqL.of (sm _ _ ha)) ?_ ?_⟩
  ·rintro i x σ H2 hx ⟨o1,o2,ys,rfl,sm,h2,pr⟩
   obtain ⟨e,he,t,p,q,rfl,ht,hp,⟨zs,hq,hzs⟩⟩:=zaj hs hx
   have ltk:=zdr es (i + 1)
   rw [zc9 he,List.length_append,List.length_map] at ltk
   have lzs:zs.length = e.2.length:=Paired.length hzs
   refine ⟨t,_,rfl,SqT.of (sm _ _ ht),rfl,_,_,rfl,_,_,rfl,rfl,?_⟩
   refine ⟨_,rfl,.inl ⟨rfl,_,SqL.of h2⟩,_,rfl,q,rfl,⟨zs,SqL.of (sm _ _ hq)⟩,fun D hD=>?_⟩
   refine zaC (K:=K) (a:=q) (xs:=zs) (fun j _ σ H4=>∃ (o1 o2:Option V) (ws:List V),σ = [o1,o2,some (.ref p)] ∧ Same H2 H4 ∧ H4 D = some (.lst ws) ∧ Paired (FactAt H4) ws ((e.2.take j).map fun s=>(e.1,s)))
    ⟨none,none,[],rfl,(Same.refl H2).upd hD,zaa,.nil⟩ (fun j _ σ H4 _ ⟨_,_,_,_,sm4,_⟩=>SqL.of (sm4 _ _ (sm _ _ hq))) ?_ ?_
   ·rintro j y _ σ H4 hy ⟨o1,o2,ws,rfl,sm4,h4,pw⟩
    obtain ⟨st,hst,u,rfl,hu⟩:=zaj hzs hy
    have s04:=sm.trans sm4
    refine ⟨u,_,rfl,SqT.of (s04 _ _ hu),rfl,_,_,rfl,_,_,rfl,rfl,?_⟩
    refine ⟨_,rfl,_,rfl,_,rfl,by show 3 ≤ sizeLine; decide,fun v hv=>?_⟩
    have s5:Same H4 (upd H4 v (.tup [.ref p,vO st.1,vO st.2])):=(Same.refl H4).upd hv
    have u5:upd H4 v (.tup [.ref p,vO st.1,vO st.2]) v = some (.tup [.ref p,vO st.1,vO st.2]):=zaa
    generalize upd H4 v (.tup [.ref p,vO st.1,vO st.2]) = H5 at s5 u5 ⊢
    have lw:=Paired.length pw
    rw [List.length_map,List.length_take] at lw
    have nt:=zaJ (s5 _ _ h4)
    refine ⟨ws,s5 _ _ h4,Nat.lt_of_le_of_lt (show ws.length ≤ 5000 by omega) (by decide),[],_,_,ws ++ [.ref v],rfl,(sm4.trans s5).upd hD,zaa,?_⟩
    rw [take_snoc hst,List.map_append]
    show Paired (FactAt (upd H5 D (.lst (ws ++ [.ref v])))) (ws ++ [.ref v]) (((e.2.take j).map fun s=>(e.1,s)) ++ [(e.1,st)])
    have fv:FactAt (upd H5 D (.lst (ws ++ [.ref v]))) (.ref v) (e.1,st):=⟨v,p,rfl,zao nt _ _ u5,zao nt _ _ ((s04.trans s5) _ _ hp)⟩
    exact zah (R:=FactAt (upd H5 D (.lst (ws ++ [.ref v])))) fv (zbN (fun b zs h=>zao nt b zs (s5 _ _ h)) pw)
   ·rintro _ σ H4 ⟨o1,o2,ws,rfl,sm4,h4,pw⟩
    rw [lzs,List.take_length] at pw
    have nbD:b ≠ D:=zaq h2 hD
    have ly:=Paired.length pr
    have lw:=Paired.length pw
    rw [List.length_map] at lw
    have nt:=zaJ (sm4 _ _ h2)
    refine ⟨b,D,ys,ws,rfl,rfl,sm4 _ _ h2,h4,Nat.le_trans (show ys.length + ws.length ≤ 5000 by omega) (by decide),_,_,ys ++ ws,rfl,(sm.trans sm4).upd hb,zaa,?_⟩
    rw [zc9 he]
    exact zct (zbN (fun b zs h=>zao nt b zs (sm4 _ _ h)) pr) (zbN (fun b zs h=>zao nt b zs h) pw)
  ·rintro σ H2 ⟨o1,o2,ys,rfl,sm,h2,pr⟩
   rw [lx,List.take_length] at pr
   exact ⟨_,rfl,k b H2 ys sm hb h2 pr⟩
end
end Prf
namespace L2
open PySem PySem.Spec PyProof.Rows
theorem zgx {cl:List (Str × Addr)} {x0 x:Str} {a c:Addr} (h:((x0,a) :: cl).lookup x = some c) : (x = x0 ∧ c = a) ∨ (x ≠ x0 ∧ cl.lookup x = some c):=by
 rw [List.lookup_cons] at h
 cases hb:x == x0 with
 | true=>rw [hb] at h; cases h; exact .inl ⟨beq_iff_eq.mp hb,rfl⟩
 | false=>rw [hb] at h; exact .inr ⟨(fun e=>by rw [e,beq_self_eq_true] at hb; cases hb),h⟩
theorem zin {cl:List (Str × Addr)} {x0:Str} {a:Addr} : ((x0,a) :: cl).lookup x0 = some a:=by rw [List.lookup_cons,beq_self_eq_true]
theorem zho {cl:List (Str × Addr)} {x0 x:Str} {a:Addr} (ne:x ≠ x0) : ((x0,a) :: cl).lookup x = cl.lookup x:=by
 rw [List.lookup_cons]
 cases hb:x == x0 with
 | true=>exact absurd (beq_iff_eq.mp hb) ne
 | false=>rfl
abbrev zaK (X:Cx) (pins:List (Addr × Obj)) (scope:Scope) (cl:List (Str × Addr)) (x0:Str) (C:Addr) (Nc:List Str) (s3:Shared) (H3:Hp) (fp:List Addr) : Cx :=
 { X with N:=Nc,s₀:=s3,H₀:=H3,env:=compEnvC scope ((x0,C + 1) :: cl) C X.env,outer:=X.stack,ex:=fp,fn:=fun x=>x == x0,pn:=X.pn ++ pins,xe:=NoX }
structure CompScopeC (X:Cx) (scope:Scope) (cl:List (Str × Addr)) (x0:Str) (Nc:List Str) (js:List (Option Nat)) : Prop where
 clos:closureFor scope X.env = pure cl
 hcc:∀ n acc,cellsFrom n scope.names acc = (x0,n) :: acc
 hpc:∀ h,pushCells h scope.names = h.push { cls:=.type "cell", data:=.cell none }
 kind:scope.kind = .function
 nms:∀ y ∈ scope.names,y.2 = .local → scope.names.lookup y.1 = some .local
 sub:∀ x c,cl.lookup x = some c → X.env.cells.lookup x = some c
 has:∀ x,((relabel scope X.env).names.lookup x = some .cell ∨ (relabel scope X.env).names.lookup x = some .free) → x = x0 ∨ ∃ c,cl.lookup x = some c
 len:js.length = Nc.length
 cap:∀ (i:Nat) (x:Str) (j:Nat),Nc[i]? = some x → js[i]? = some (some j) → X.N[j]? = some x ∧ (X.env.kindOf x = some .cell ∨ X.env.kindOf x = some .free) ∧ ((relabel scope X.env).names.lookup x = some .cell ∨ (relabel scope X.env).names.lookup x = some .free) ∧ x ≠ x0
section
variable {X:Cx} {pins:List (Addr × Obj)} {σ:St} {H:Hp} {s:Shared} {scope:Scope} {cl:List (Str × Addr)} {x0:Str} {Nc:List Str} {js:List (Option Nat)} {C:Addr} {fp:List Addr} {h1:Heap} {tk:Nat} {m:Str → Option Value}
theorem zjU (S:CompScopeC X scope cl x0 Nc js) (I:Inv X pins σ H s) (hf:∀ b ∈ fp,FpOk X pins H b) (hfo:∀ b ∈ fp,∃ o,s.heap.get? b = some o) (hC:s.heap.objs.size ≤ C) (hC1:h1.IsCell (C + 1) none) (hn:h1.Ns C m) (k:∀ b o,s.heap.get? b = some o → h1.get? b = some o) :
  Inv (zaK X pins scope cl x0 C Nc s H fp) [] (capt js σ) H { s with heap:=h1,toks:=tk }:=by
 have lt:∀ {b:Addr} {o:Obj},s.heap.get? b = some o → b ≠ C:=fun e=>Nat.ne_of_lt (Nat.lt_of_lt_of_le (Heap.lt_size e) hC)
 have lt1:∀ {b:Addr} {o:Obj},s.heap.get? b = some o → b ≠ C + 1:=fun e=>Nat.ne_of_lt (Nat.lt_succ_of_lt (Nat.lt_of_lt_of_le (Heap.lt_size e) hC))
 have hCn:H C = none:=I.hok.fresh hC
 have hC1n:H (C + 1) = none:=I.hok.fresh (Nat.le_succ_of_le hC)
 have old:∀ x c,cl.lookup x = some c → ∃ o,s.heap.get? c = some o:=fun x c e=>by
  obtain ⟨v,o,ho,_⟩:=I.cell x c (S.sub x c e)
  exact ⟨o,ho⟩
 have inj:∀ x y c,((x0,C + 1) :: cl).lookup x = some c → ((x0,C + 1) :: cl).lookup y = some c → x = y:=fun x y c e1 e2=>by
  rcases zgx e1 with ⟨a1,a2⟩ | ⟨_,a2⟩ <;> rcases zgx e2 with ⟨b1,b2⟩ | ⟨_,b2⟩
  ·rw [a1,b1]
  ·obtain ⟨o,ho⟩:=old y c b2
   exact absurd a2 (lt1 ho)
  ·obtain ⟨o,ho⟩:=old x c a2
   exact absurd b2 (lt1 ho)
  ·exact I.ok.inj x y c (S.sub x c a2) (S.sub y c b2)
 have has:∀ x,((relabel scope X.env).names.lookup x = some .cell ∨ (relabel scope X.env).names.lookup x = some .free) → ∃ c,((x0,C + 1) :: cl).lookup x = some c:=fun x hx=>by
  by_cases e:x = x0
  ·subst e; exact ⟨_,zin⟩
  ·rcases S.has x hx with z | ⟨c,z⟩
   ·exact absurd z e
   ·exact ⟨c,by rw [zho e]; exact z⟩
 have cab:∀ x c,(x == x0) = true → ((x0,C + 1) :: cl).lookup x = some c → s.heap.objs.size ≤ c:=fun x c z e=>by
  rw [beq_iff_eq.mp z,zin] at e
  cases e
  exact Nat.le_succ_of_le hC
 refine ⟨⟨I.ok.mod,S.kind,I.ok.glob,I.ok.blt,hC,inj,fun x hx=>has x hx,cab,(fun z=>I.ok.hd z),I.ok.frames,.inl rfl,fun b hb=>?_,I.bs,
  Nat.le_trans I.ok.bsz I.sz,fun b o e hb=>?_,fun b hb hs=>?_,I.stack,I.stkFree⟩,rfl,I.bare,Un.kept k,⟨m,hn,fun i x v e1 e2 e3=>?_⟩,fun x c e=>?_,hCn,fun x c e=>?_,fun p hp=>?_,I.hok.kept k,?_⟩
 ·obtain ⟨o,ho⟩:=hfo b hb
  refine ⟨lt ho,fun x c e=>?_⟩
  rcases zgx e with ⟨_,a2⟩ | ⟨_,a2⟩
  ·rw [a2]; exact (lt1 ho).symm
  ·exact (hf b hb).2.2.2.2.1 x c (S.sub x c a2)
 ·rcases (hf b hb).2.2.2.1 with z | z
  ·exact I.ok.noex b o e z
  ·exact absurd (Nat.lt_of_lt_of_le (Heap.lt_size e) (Nat.le_trans I.ok.bsz z)) (Nat.lt_irrefl _)
 ·rcases List.mem_cons.mp (I.stkSub b hs) with z | z
  ·exact (hf b hb).2.1 z
  ·exact (hf b hb).2.2.1 z
 ·unfold capt at e2
  rw [List.getElem?_map] at e2
  cases ej:js[i]? with
  | none=>rw [ej] at e2; cases e2
  | some oj =>
   rw [ej] at e2
   cases oj with
   | none=>cases e2
   | some j =>
    have e2':(σ[j]?).join = some v:=Option.some.inj e2
    obtain ⟨c1,c2,c3,c4⟩:=S.cap i x j e1 ej
    have e4:σ[j]? = some (some v):=by
     cases q:σ[j]? with
     | none=>rw [q] at e2'; cases e2'
     | some o=>rw [q] at e2'; cases o with
      | none=>cases e2'
      | some z=>cases e2'; rfl
    obtain ⟨mo,hmo,hl⟩:=I.loc
    have vis:Vis X.env.scope x:=by rcases c2 with z | z; exact .inr (.inl z); exact .inr (.inr z)
    obtain ⟨u,r,l⟩:=hl j x v c1 e4 vis
    refine ⟨u,r,.inr ⟨c3,?_⟩⟩
    rcases l with ⟨z,_⟩ | ⟨_,c,hc,hcell⟩
    ·rcases c2 with y | y <;> rw [z] at y <;> cases y
    ·obtain ⟨c',hc'⟩:=(S.has x c3).resolve_left c4
     have:=S.sub x c' hc'
     rw [hc] at this; cases this
     obtain ⟨o,ho,hd⟩:=hcell
     exact ⟨c,(zho c4).trans hc',o,k c o ho,hd⟩
 ·rcases zgx e with ⟨_,a2⟩ | ⟨_,a2⟩
  ·rw [a2]; exact ⟨none,hC1⟩
  ·obtain ⟨v,o,ho,hd⟩:=I.cell x c (S.sub x c a2)
   exact ⟨v,o,k c o ho,hd⟩
 ·rcases zgx e with ⟨_,a2⟩ | ⟨_,a2⟩
  ·rw [a2]; exact hC1n
  ·exact I.freeC x c (S.sub x c a2)
 ·have hp':p ∈ X.pn ++ pins:=by simpa using hp
  obtain ⟨e,n,ne,nf,d⟩:=I.pin p hp'
  refine ⟨k _ _ e,n,lt e,fun z=>?_,d⟩
  rcases List.mem_cons.mp (I.stkSub p.1 z) with y | y
  ·exact ne y
  ·exact nf y
 ·show (capt js σ).length = Nc.length
  unfold capt
  rw [List.length_map]
  exact S.len
theorem zjP {elt target iter:Expr} {ifs:List Expr} {pos:Pos} {g:TG} {tt:TT} {te:TE} {Q:VK} {J:It} {it D:Addr} {tn:Nat → Heap → Prop} {R:Result → Shared → Prop} {s4:Shared} {σc:St} {Hc:Hp}
  (hc:X.calm = true) (T:Turn X.prog X.w X.K target J fp it tn) (hf:∀ b ∈ fp,FpOk X pins H b)
  (hg:PG (zaK X pins scope cl x0 C Nc s H fp) target g) (ht:PIf (zaK X pins scope cl x0 C Nc s H fp) ifs tt) (he:PE (zaK X pins scope cl x0 C Nc s H fp) elt te)
  (I:Inv (zaK X pins scope cl x0 C Nc s H fp) [] σc Hc s4) (st:tn 0 s4.heap) (fr:∀ b ∈ fp,Hc b = none) (hw:zdw J g tt te D Q σc Hc)
  (h:∀ s' σ' H',Inv (zaK X pins scope cl x0 C Nc s H fp) [] σ' H' s' → (∀ b ∈ fp,H' b = none) → Q (.ref D) H' → R (.ok .next) s') :
  codeAny (model X.prog X.w) X.A (.compLoop (.ListComp elt [⟨target,iter,ifs,0⟩] scope pos) 0 (.ref it) (.ref D) (compEnvC scope ((x0,C + 1) :: cl) C X.env)) R s4:=by
 obtain ⟨W,⟨m0,w0⟩,turn⟩:=hw
 have ok:=I.ok
 have stat:∀ {H':Hp},(∀ b ∈ fp,H' b = none) → ∀ b ∈ fp,FpOk (zaK X pins scope cl x0 C Nc s H fp) [] H' b:=fun hn b hb =>
  ⟨hn b hb,(ok.exf b hb).1,ok.exfs b hb,.inl hb,(ok.exf b hb).2,fun p hp=>(hf b hb).2.2.2.2.2 p (by simpa using hp)⟩
 refine ze3 (fun n s'=>∃ i σ' H',Inv (zaK X pins scope cl x0 C Nc s H fp) [] σ' H' s' ∧ tn i s'.heap ∧ (∀ b ∈ fp,H' b = none) ∧ W i n σ' H') ?_ m0 ⟨0,σc,Hc,I,st,fr,w0⟩
 rintro n s5 ⟨i,σ5,H5,I5,st5,fr5,w5⟩
 rcases turn i n σ5 H5 w5 with ⟨stop,qn⟩ | ⟨go,N,hN,step⟩
 ·refine thn (T.done (zaK X pins scope cl x0 C Nc s H fp) rfl rfl rfl hc i [] s5 σ5 H5 NoX I5 (stat fr5) st5 stop) fun r s6 ⟨hr,I6⟩=>?_
  subst hr
  exact h s6 σ5 H5 I6 fr5 qn
 ·refine thn (T.item (zaK X pins scope cl x0 C Nc s H fp) rfl rfl rfl hc i [] s5 σ5 H5 NoX I5 (stat fr5) st5 go) fun r s6 ⟨u,hr,h6⟩=>?_
  subst hr
  refine thn h6 fun _ s7 ⟨x,H7,I7,r7,y7,st7,fr7⟩=>?_
  have I7':=I7.pinned (stat fr7) (T.obj _ _ st7)
  refine thn (hg _ s7 σ5 H7 x u _ I7' r7 (step x H7 y7)) fun _ s8 ⟨σ8,H8,I8,q8⟩=>?_
  refine thn (ht _ s8 σ8 H8 _ I8 q8) fun b s9 ⟨H9,I9,q9⟩=>?_
  have again:∀ {σ':St} {H':Hp} {s':Shared},Inv (zaK X pins scope cl x0 C Nc s H fp) ([] ++ zff fp s7.heap) σ' H' s' → N σ' H' → ∃ m,m < n ∧ ∃ i σ' H',Inv (zaK X pins scope cl x0 C Nc s H fp) [] σ' H' s' ∧ tn i s'.heap ∧ (∀ b ∈ fp,H' b = none) ∧ W i m σ' H':=fun {σ' H' s'} J' n'=>by
   obtain ⟨m',hm,w'⟩:=hN σ' H' n'
   have P:∀ b ∈ fp,∀ o,s7.heap.get? b = some o → s'.heap.get? b = some o ∧ H' b = none:=fun b hb o e =>
    have q:=J'.pin (b,o) (List.mem_append_right _ (List.mem_append_right _ (zbh hb e)))
    ⟨q.1,q.2.1⟩
   refine ⟨m',hm,i + 1,σ',H',J'.unpinned,T.keep _ _ _ st7 fun b hb o e=>(P b hb o e).1,fun b hb=>?_,w'⟩
   obtain ⟨o,e,_⟩:=T.obj _ _ st7 b hb
   exact (P b hb o e).2
  cases b with
  | false =>
   rw [if_neg (by decide)]
   exact again I9 q9
  | true =>
   rw [if_pos rfl]
   refine thn (he _ s9 σ8 H9 _ I9 q9) fun v s10 ⟨y,H10,I10,r10,ys,hD,hz,n10⟩=>?_
   refine thn (zeu _ s10 σ8 H10 (.ref D) [y] (.ref D) [v] (fun _ H11=>N σ8 H11) I10 rfl (.cons r10 .nil) ⟨D,ys,y,rfl,rfl,hD,hz,n10⟩) fun _ s11 ⟨_,H11,I11,_,n11⟩=>?_
   exact again I11 n11
end
def ziJ (X:Cx) (scope:Scope) (cl:List (Str × Addr)) (x0:Str) (Nc:List Str) (target elt:Expr) (ifs:List Expr) (g:TG) (tt:TT) (te:TE) : Prop :=
 ∀ (pins:List (Addr × Obj)) (C:Addr) (s3:Shared) (H3:Hp) (fp:List Addr),PG (zaK X pins scope cl x0 C Nc s3 H3 fp) target g ∧ PIf (zaK X pins scope cl x0 C Nc s3 H3 fp) ifs tt ∧ PE (zaK X pins scope cl x0 C Nc s3 H3 fp) elt te
section
variable {M:Model} {A:Around} {E:Value → Shared → Prop} {s:Shared}
theorem zlT {scope:Scope} {globals:Addr} {cl:List (Str × Addr)} {qual x0:Str} {o:Env} {Q:Env → Shared → Prop} (hcc:∀ n acc,cellsFrom n scope.names acc = (x0,n) :: acc) (hpc:∀ h,pushCells h scope.names = h.push { cls:=.type "cell", data:=.cell none })
  (h:Q { scope,locals:=s.heap.objs.size,globals,cells:=(x0,s.heap.objs.size + 1) :: cl,qual,func:=none,code:=o.code,frame:=o.frame,builtins:=o.builtins } { s with heap:=(s.heap.push { cls:=.type "dict", data:=.dict #[] }).push { cls:=.type "cell", data:=.cell none } }) :
  wpAny M A (newFunctionEnv scope globals cl [] qual none .none (some o)) Q E s:=by
 simp only [newFunctionEnv,Option.isSome_some,if_true]
 refine wpAny_bind (wpAny_alloc ?_)
 refine wpAny_bind (wpAny_layCells _ (fun name kind cells=>by cases hkc:kind == NameKind.cell <;> simp [hkc]) _ _ _ _ ?_)
 rw [hcc,hpc,show ({ s with heap:=s.heap.push { cls:=.type "dict", data:=.dict #[] } } : Shared).heap.objs.size = s.heap.objs.size + 1 from Heap.size_push ..]
 rw [List.forIn_nil]
 exact wpAny_bind (wpAny_pure (wpAny_pure h))
end
section
variable {X:Cx} {pins:List (Addr × Obj)} {σ:St} {H:Hp} {s:Shared} {scope:Scope} {cl:List (Str × Addr)} {x0:Str} {Nc:List Str} {js:List (Option Nat)} {target elt iter:Expr} {ifs:List Expr} {pos:Pos} {wi:TI} {g:TG} {tt:TT} {te:TE}
theorem zg3 {Q:VK} {J:It} {it:Addr} {fp:List Addr} {tn:Nat → Heap → Prop} {RR:Value → Addr → Result → Shared → Prop} {E:Value → Shared → Prop} (hc:X.calm = true) (S:CompScopeC X scope cl x0 Nc js) (B:ziJ X scope cl x0 Nc target elt ifs g tt te)
  (I:Inv X pins σ H s) (T:Turn X.prog X.w X.K target J fp it tn) (st:tn 0 s.heap) (hf:∀ b ∈ fp,FpOk X pins H b) (hw:∀ D,H D = none → zdw J g tt te D Q (capt js σ) (upd H D (.lst [])))
  (h:∀ D C s' H' m,Inv X pins σ H' s' → s'.heap.Ns C m → FpOk X pins H' C → Q (.ref D) H' → RR (.ref D) C (.ok .next) s') :
  wpAny (model X.prog X.w) X.A (newList []) (fun acc s3=>wpAny (model X.prog X.w) X.A (newFunctionEnv scope X.env.globals cl [] X.env.qual none .none (some X.env)) (fun cenv s4 =>
   codeAny (model X.prog X.w) X.A (.compStart (.ListComp elt [⟨target,iter,ifs,0⟩] scope pos) 0 (.ref it) acc { cenv with scope:=relabel scope X.env }) (RR acc cenv.locals) s4) E s3) E s:=by
 have hD:H s.heap.objs.size = none:=I.fresh
 have I3:Inv X pins σ (upd H s.heap.objs.size (.lst [])) { s with heap:=s.heap.push { cls:=.type "list", data:=.seq ([] : List Value).toArray } }:=I.lnew (t':=s.toks) (its:=[]) (ys:=[]) .nil (Nat.zero_le _)
 refine wpAny_newList (zlT S.hcc S.hpc ?_) (Nat.zero_le _)
 generalize hs3:({ s with heap:=s.heap.push { cls:=.type "list", data:=.seq ([] : List Value).toArray } } : Shared) = s3 at I3
 have hz:({ s with heap:=s.heap.push { cls:=.type "list", data:=.seq ([] : List Value).toArray } } : Shared) = s3:=hs3
 have hn':((s3.heap.push { cls:=.type "dict", data:=.dict #[] }).push { cls:=.type "cell", data:=.cell none }).Ns s3.heap.objs.size (fun _=>none):=(Heap.Ns.new s3.heap (.type "dict")).keeps fun b o e=>Heap.get?_push_of_some _ e
 have hcell:((s3.heap.push { cls:=.type "dict", data:=.dict #[] }).push { cls:=.type "cell", data:=.cell none }).IsCell (s3.heap.objs.size + 1) none:=⟨_,by rw [← Heap.size_push s3.heap { cls:=.type "dict", data:=.dict #[] }]; exact Heap.get?_push_size _ rfl,rfl⟩
 have kp:∀ b o,s3.heap.get? b = some o → ((s3.heap.push { cls:=.type "dict", data:=.dict #[] }).push { cls:=.type "cell", data:=.cell none }).get? b = some o:=fun b o e=>Heap.get?_push_of_some _ (Heap.get?_push_of_some _ e)
 show codeAny _ _ _ _ { s3 with heap:=(s3.heap.push { cls:=.type "dict", data:=.dict #[] }).push { cls:=.type "cell", data:=.cell none } }
 generalize hh1:(s3.heap.push { cls:=.type "dict", data:=.dict #[] }).push { cls:=.type "cell", data:=.cell none } = h1 at hn' hcell kp ⊢
 have fpo:∀ b ∈ fp,∃ o,s.heap.get? b = some o:=fun b hb=>let ⟨o,e,_⟩:=T.obj 0 _ st b hb; ⟨o,e⟩
 have k2:∀ b o,s.heap.get? b = some o → s3.heap.get? b = some o:=fun b o e=>by rw [← hs3]; exact Heap.get?_push_of_some _ e
 have hf3:∀ b ∈ fp,FpOk X pins (upd H s.heap.objs.size (.lst [])) b:=fun b hb=>by
  refine FpOk.of (hf b hb) ?_
  obtain ⟨o,e⟩:=fpo b hb
  rw [zai (Nat.ne_of_lt (Heap.lt_size e))]
  exact (hf b hb).1
 have Ic:Inv (zaK X pins scope cl x0 s3.heap.objs.size Nc s3 (upd H s.heap.objs.size (.lst [])) fp) [] (capt js σ) (upd H s.heap.objs.size (.lst [])) { s3 with heap:=h1,toks:=s3.toks } :=
  zjU S I3 hf3 (fun b hb=>let ⟨o,e⟩:=fpo b hb; ⟨o,k2 b o e⟩) (Nat.le_refl _) hcell hn' kp
 have st4:tn 0 h1:=T.keep 0 _ _ st fun b hb o e=>kp b o (k2 b o e)
 obtain ⟨b1,b2,b3⟩:=B pins s3.heap.objs.size s3 (upd H s.heap.objs.size (.lst [])) fp
 have loop:codeAny (model X.prog X.w) X.A (.compLoop (.ListComp elt [⟨target,iter,ifs,0⟩] scope pos) 0 (.ref it) (.ref s.heap.objs.size) (compEnvC scope ((x0,s3.heap.objs.size + 1) :: cl) s3.heap.objs.size X.env)) (RR (.ref s.heap.objs.size) s3.heap.objs.size) { s3 with heap:=h1,toks:=s3.toks }:=by
  refine zjP hc T hf3 b1 b2 b3 Ic st4 (fun b hb=>(hf3 b hb).1) (hw _ hD) fun s' σ' H' I' fr' q'=>?_
  obtain ⟨m,hm,_⟩:=I'.loc
  have Io:Inv X pins σ H' s':=I3.call' (ch:=fp) I'.os I'.base I'.hok I'.bare fun b hb=>⟨(hf3 b hb).2.2.2.1,(hf3 b hb).2.1,(hf3 b hb).2.2.2.2.1,(hf3 b hb).2.2.2.2.2⟩
  exact h _ _ s' H' m Io hm (I3.fpOk (Nat.le_refl _) I'.free) q'
 exact codeAny_compStart_list loop (T.self X.A 0 _ _ _ (show tn 0 h1 from st4) loop)
theorem zkU (hc:X.calm = true) (S:CompScopeC X scope cl x0 Nc js) (hi:PI X target iter wi) (B:ziJ X scope cl x0 Nc target elt ifs g tt te) (hs:∀ x,foldedSetIterable iter X.env x = pure x:=by intro _; rfl) :
  PE X (.ListComp elt [⟨target,iter,ifs,0⟩] scope pos) (zg2 js wi g tt te):=by
 intro pins s σ H Q I h
 rw [eval_ListComp]
 refine wpAny_comprehension_free (use:=none) rfl hs S.clos S.kind S.nms (thn (hi pins s σ H _ I h) fun xv s1 h1=>thn h1 fun itv s2 h2=>?_)
 obtain ⟨it,fp,tn,J,H2,e,I2,T,st2,f2,hw⟩:=h2
 subst e
 refine zg3 hc S B I2 T st2 f2 hw fun D C s' H' m I' hm fC q=>?_
 exact ⟨m,hm,fun h' hs'=>⟨.ref D,H',I'.lettingGo fC hs',rfl,q⟩⟩
end
theorem zj9 {X:Cx} {scope:Scope} {cl:List (Str × Addr)} {x0:Str} {Nc:List Str} {js:List (Option Nat)} (clos:closureFor scope X.env = pure cl) (kind:scope.kind = .function)
  (hcc:∀ n acc,cellsFrom n scope.names acc = (x0,n) :: acc) (hpc:∀ h,pushCells h scope.names = h.push { cls:=.type "cell", data:=.cell none }) (b2:(scope.names.all fun y=>decide (y.2 = .local → scope.names.lookup y.1 = some .local)) = true)
  (sub:∀ x c,(x,c) ∈ cl → X.env.cells.lookup x = some c) (b3:((relabel scope X.env).names.all fun y=>!(y.2 == .cell || y.2 == .free) || (y.1 == x0 || (cl.lookup y.1).isSome)) = true) (len:js.length = Nc.length)
  (b4:((Nc.zip js).all fun y=>match y.2 with
   | none=>true
   | some j=>decide (X.N[j]? = some y.1) && decide (X.env.kindOf y.1 = some .cell ∨ X.env.kindOf y.1 = some .free) && decide ((relabel scope X.env).names.lookup y.1 = some .cell ∨ (relabel scope X.env).names.lookup y.1 = some .free) && !(y.1 == x0)) = true) : CompScopeC X scope cl x0 Nc js where
 clos:=clos
 hcc:=hcc
 hpc:=hpc
 kind:=kind
 nms:=fun y hy=>of_decide_eq_true (List.all_eq_true.mp b2 y hy)
 sub:=fun x c h=>sub x c (PySem.mem_of_lookup h)
 has:=fun x hx=>by
  have go:∀ k:NameKind,(k == .cell || k == .free) = true → (relabel scope X.env).names.lookup x = some k → x = x0 ∨ ∃ c,cl.lookup x = some c:=fun k hk e=>by
   have:=List.all_eq_true.mp b3 (x,k) (PySem.mem_of_lookup e)
   dsimp only at this
   rw [hk,Bool.not_true,Bool.false_or,Bool.or_eq_true] at this
   exact this.imp (fun z=>beq_iff_eq.mp z) fun z=>Option.isSome_iff_exists.mp z
  rcases hx with z | z
  ·exact go .cell rfl z
  ·exact go .free rfl z
 len:=len
 cap:=fun i x j h1 h2=>by
  have hm:(x,some j) ∈ Nc.zip js:=by
   have:(Nc.zip js)[i]? = some (x,some j):=by rw [List.getElem?_zip_eq_some]; exact ⟨h1,h2⟩
   exact List.mem_of_getElem? this
  have:=List.all_eq_true.mp b4 _ hm
  dsimp only at this
  rw [Bool.and_eq_true,Bool.and_eq_true,Bool.and_eq_true] at this
  exact ⟨of_decide_eq_true this.1.1.1,of_decide_eq_true this.1.1.2,of_decide_eq_true this.1.2,fun z=>by have q:=this.2; rw [z,beq_self_eq_true] at q; cases q⟩
section
variable {X:Cx} {scope:Scope} {cl:List (Str × Addr)} {x0:Str} {Nc:List Str} {js:List (Option Nat)} {target elt iter:Expr} {ifs:List Expr} {wi:TI} {g:TG} {tt:TT} {te:TE} {pos:Pos} {x:Str}
def JInC (X:Cx) (scope:Scope) (cl:List (Str × Addr)) (x0:Str) (Nc:List Str) (target elt:Expr) (ifs:List Expr) (g:TG) (tt:TT) (te:TE) : Prop :=
 ∀ (pins:List (Addr × Obj)) (C:Addr) (s3:Shared) (H3:Hp) (fp:List Addr),JG (zaK X pins scope cl x0 C Nc s3 H3 fp) target g ∧ ((ifs = [] ∧ tt = tYes) ∨ ∃ c,ifs = [c] ∧ JT (zaK X pins scope cl x0 C Nc s3 H3 fp) c tt) ∧ JE (zaK X pins scope cl x0 C Nc s3 H3 fp) elt te
theorem JInC.inner (B:JInC X scope cl x0 Nc target elt ifs g tt te) : ziJ X scope cl x0 Nc target elt ifs g tt te:=fun pins C s3 H3 fp=>by
 obtain ⟨h1,h2,h3⟩:=B pins C s3 H3 fp
 refine ⟨h1.h,?_,h3.h⟩
 rcases h2 with ⟨rfl,rfl⟩ | ⟨c,rfl,h2⟩
 ·exact zjn
 ·exact zju h2.h
theorem zl9 (S:CompScopeC X scope cl x0 Nc js) (hi:JI X target iter wi) (B:JInC X scope cl x0 Nc target elt ifs g tt te) (hc:X.calm = true:=by rfl) (hs:Pln iter:=by constructor) : JE X (.ListComp elt [⟨target,iter,ifs,0⟩] scope pos) (zg2 js wi g tt te) :=
 ⟨zkU hc S hi.h B.inner (hs.fold _)⟩
end
end L2
namespace L2
open PySem PySem.Spec PyProof.Rows
section
variable {X:Cx} {o i value:Expr} {td ty tv:TE} {pos pos':Pos} {k:Nat}
theorem zlP:JE X (.Dict [] [] pos) zle:=⟨zkA⟩
theorem znJ (hr:Room k X.A) (ho:JE X o td) (hi:JE X i ty) (hv:JE X value tv) (hs:swapsWith value (some (.Subscript o i pos')) pos.line X.env = pure false:=by rfl) : JS X (.Assign [.Subscript o i pos'] value pos) (znK td ty tv) :=
 ⟨zlM (by have:=hr.units; omega) ho.h hi.h hv.h hs⟩
theorem znw {a b c:Expr} {ta tb tc:TE} {p2:Pos} (ha:JE X a ta) (hb:JE X b tb) (hc:JE X c tc) : JE X (.Subscript a (.Slice (some b) (some c) none p2) pos) (tSl (rSlL X.K) ta (zeL tb) (zeL tc)):=⟨zdf ziM ha.h (zdp hb.h) (zdp hc.h)⟩
theorem zmX (xs:List V) (a m:Nat) : (cutV xs (some (a:Int)) (some ((a:Int) + (m:Int)))).length ≤ m:=by
 unfold cutV
 rw [List.length_take,List.length_drop]
 have e1:HT.sIx xs.length 0 (some (a:Int)) = min a xs.length:=by
  exact HT.sIx_nat _ _ _
 have e2:HT.sIx xs.length xs.length (some ((a:Int) + (m:Int))) = min (a + m) xs.length:=by
  rw [show ((a:Int) + (m:Int)) = ((a + m:Nat) : Int) by omega]
  exact HT.sIx_nat _ _ _
 rw [e1,e2]
 omega
end
end L2
namespace L2
open PySem PySem.Spec PyProof.Rows
section
variable {X:Cx}
def zlw (K:PySem.W.Frag) : List V → Hp → VK → Prop:=fun xs H Q=>∃ (l:Addr) (ns:List Int),xs = [.ref l] ∧ SqL K H l (ns.map V.int) ∧ ns.length < 64 ∧ ∀ (D:Addr) (ns':List Int),H D = none → ns'.Perm ns → ns'.Pairwise (· ≤ ·) → Q (.ref D) (upd H D (.lst (ns'.map V.int)))
theorem zeH:zcZ X (.builtin "sorted") (zlw X.K):=by
 intro pins s σ H xs us Q I r ⟨l,ns,e,hl,h64,q⟩
 subst e
 obtain ⟨u,rfl,ru⟩:=Vals.one r
 cases ru
 obtain ⟨its,rv,pl,_⟩:=I.list hl
 have hlen:=rv.length
 rw [List.length_map] at hlen
 refine sorted_ints pl.isList (intsAre_of rv) (by omega) fun out ns' a1 a2 a3=>?_
 obtain ⟨e,he⟩:=sortedAll_at s.heap its out
 have hl':ns'.length < 64:=by rw [a2.length_eq]; exact h64
 exact ⟨.ref (s.heap.objs.size + 1),_,I.laid (a:=s.heap.objs.size + 1) (o:=.lst (ns'.map V.int)) (t':=s.toks) (fun b ob z=>sortedAll_old z) (Nat.le_succ _) ⟨by rw [List.length_map]; exact zcb hl',out.toList,e,zeq a1,he⟩,rfl,q _ ns' (I.hok.fresh (Nat.le_succ _)) a2 a3⟩
theorem zjt:JC X (.builtin "sorted") (zlw X.K):=⟨zeH⟩
theorem znT {x y:Int} {A B:Prop} (e:x = y) (h:A) : if decide (V.int x = V.int y) = true then A else B:=by rw [if_pos (decide_eq_true (by rw [e]))]; exact h
theorem zmv {x y:Int} {A B:Prop} (e:x ≠ y) (h:B) : if decide (V.int x = V.int y) = true then A else B:=by rw [if_neg (fun z=>e (V.int.inj (of_decide_eq_true z)))]; exact h
theorem ziG {α:Type} {xs:List α} {v:α} (h:xs[xs.length - 1]? = some v) (hp:0 < xs.length) : atI xs (-1) = some v:=by
 obtain ⟨h1,h2⟩:=List.getElem?_eq_some_iff.mp h
 have e:xs = xs.take (xs.length - 1) ++ [v]:=by
  rw [← h2,← List.take_succ_eq_append_getElem h1,Nat.sub_add_cancel hp,List.take_length]
 rw [e]
 exact zda _ _
variable {a b:Expr} {ta tb:TE} {pos:Pos}
theorem ziw (ha:JE X a ta) (hb:JE X b tb) (hm:∀ r,behindInMarks .NotIn b = r → r = false:=by intro _ h; exact h ▸ rfl) : JT X (.Compare a [.NotIn] [b] pos) (zhc (tOp (rIn X.K true) ta tb)):=⟨ziI zgk ha.h hb.h (hm _ rfl)⟩
end
end L2
namespace Prf
open PySem L2 Wr
structure LinesOf (ks ls:List (List Int)) : Prop where
 ord:ls.Pairwise fun a b=>lexI b a = false
 nd:ls.Nodup
 mem:∀ r,r ∈ ls ↔ r ∈ ks
theorem LinesOf.uniq {ks ks' ls ls':List (List Int)} (h:LinesOf ks ls) (h':LinesOf ks' ls') (e:∀ r,r ∈ ks ↔ r ∈ ks') : ls = ls' :=
 ze6 ((List.perm_ext_iff_of_nodup h.nd h'.nd).mpr fun r=>by rw [h.mem,h'.mem,e]) h.ord h'.ord
theorem zhf (a b:List Int) : PyData.eqv (dRow a) (dRow b) = decide (a = b):=by unfold dRow; rw [PyData.eqv]; exact zc7 a b
theorem zbw (r:List Int) : SeqAt.shaped (dRow r) = true:=by
 have e:=zcw r
 unfold SeqAt.shaped dRow
 simp only [PyData.canLay0,PyData.depth,e.1,e.2]
 rfl
theorem zk8 {ss ls:List (List Int)} {i:Nat} {r last:List Int} (hs:ss.Pairwise fun a b=>lexI b a = false) (hr:ss[i]? = some r) (L:LinesOf (ss.take i) ls) (hl:ls.getLast? = some last) (ne:last ≠ r) : LinesOf (ss.take (i + 1)) (ls ++ [r]):=by
 have hi:i < ss.length:=(List.getElem?_eq_some_iff.mp hr).1
 have below:∀ x ∈ ls,lexI r x = false:=fun x hx=>by
  have:x ∈ ss.take i:=(L.mem x).mp hx
  obtain ⟨j,hj⟩:=List.getElem?_of_mem this
  have hj1:j < (ss.take i).length:=(List.getElem?_eq_some_iff.mp hj).1
  rw [List.length_take] at hj1
  rw [List.getElem?_take_of_lt (by omega)] at hj
  obtain ⟨a1,h1⟩:=List.getElem?_eq_some_iff.mp hj
  obtain ⟨a2,h2⟩:=List.getElem?_eq_some_iff.mp hr
  have:=(List.pairwise_iff_getElem.mp hs) j i a1 a2 (by omega)
  rwa [h1,h2] at this
 have hlast:last ∈ ls:=List.mem_of_getLast? hl
 have nr:r ∉ ls:=fun hr'=>by
  have le:lexI last r = false:=by
   obtain ⟨ini,e⟩ : ∃ ini,ls = ini ++ [last]:=by
    rw [List.getLast?_eq_some_iff] at hl; exact hl
   have o:=L.ord
   rw [e] at o hr'
   rcases List.mem_append.mp hr' with z | z
   ·exact (List.pairwise_append.mp o).2.2 r z last (by simp)
   ·exact absurd (List.mem_singleton.mp z).symm ne
  exact ne (zbK le (below last hlast))
 refine ⟨List.pairwise_append.mpr ⟨L.ord,List.pairwise_singleton ..,fun x hx y hy=>?_⟩,List.nodup_append.mpr ⟨L.nd,List.pairwise_singleton ..,fun x hx y hy e=>?_⟩,fun x=>?_⟩
 ·rw [List.mem_singleton.mp hy]; exact below x hx
 ·rw [List.mem_singleton.mp hy] at e; rw [e] at hx; exact nr hx
 ·rw [take_snoc hr,List.mem_append,List.mem_append,L.mem]
theorem zk7 {ss ls:List (List Int)} {i:Nat} {r:List Int} (hr:ss[i]? = some r) (L:LinesOf (ss.take i) ls) (hm:r ∈ ls) : LinesOf (ss.take (i + 1)) ls:=by
 refine ⟨L.ord,L.nd,fun x=>?_⟩
 rw [take_snoc hr,List.mem_append,← L.mem]
 exact ⟨.inl,fun h=>h.elim id fun z=>by rw [List.mem_singleton.mp z]; exact hm⟩
end Prf
namespace L2
open PySem PySem.Spec PyProof.Rows
def okIs:Option Int → Value → Bool
 | none,.none=>true
 | some i,v=>Value.isInt i v
 | _,_=>false
def okH:Option Int → Int
 | none=>0xFCA86420
 | some i=>hashInt i
theorem zaQ {k:Option Int} {v:Value} (h:okIs k v = true) : (k = none ∧ v = .none) ∨ ∃ i t,k = some i ∧ v = .int i t:=by
 cases k with
 | none=>cases v <;> first | exact .inl ⟨rfl,rfl⟩ | cases h
 | some i=>obtain ⟨t,e⟩:=Value.isInt_shape (k:=i) (v:=v) h; exact .inr ⟨i,t,rfl,e⟩
theorem zgV {k:Option Int} {u:Value} (r:RelV (vO k) u) : okIs k u = true:=by
 cases k with
 | none=>obtain rfl:u = Value.none:=r; rfl
 | some i=>obtain ⟨t,rfl⟩ : ∃ t,u = Value.int i t:=r; show Value.isInt i (.int i t) = true; simp [Value.isInt]
theorem zoI {k:Option Int} {u:Value} (h:okIs k u = true) : RelV (vO k) u:=by
 rcases zaQ h with ⟨rfl,rfl⟩ | ⟨i,t,rfl,rfl⟩
 ·rfl
 ·exact ⟨t,rfl⟩
theorem zjI {prog:Program} {w:World} {A:Around} {E:Value → Shared → Prop} {s:Shared} {Q:Int → Shared → Prop} (h:Q 0xFCA86420 { s with toks:=s.toks + 1 }) : wpAny (model prog w) A (pyHash .none) Q E s:=by
 have hT:s.TypeIs .none "NoneType" := rfl
 show wpAny _ _ (pyHashByItsType .none) Q E s
 unfold pyHashByItsType; refine wpAny_bind ?_
 rw [cRoomFor,if_neg (by exact Bool.false_ne_true)]
 refine wpAny_pure (wpAny_bind (wpAny_specialOf hT PySem.F.slot_NoneType_hash.lookup ?_))
 show wpAny _ _ (if (some (Value.builtin "NoneType.__hash__") == some Value.none) = true then _ else _) Q E s
 rw [if_neg (by rw [beq_builtin_none]; exact Bool.false_ne_true)]; refine wpAny_bind (wpAny_specialOf hT PySem.F.slot_NoneType_hash.lookup ?_)
 show wpAny _ _ (callSpecialIfBoundUnlessNone? .none "__hash__" _ >>= _) Q E s
 refine wpAny_bind (wpAny_callSpecialIfBoundUnlessNone?_slot hT PySem.F.slot_NoneType_hash (wpAny_call_entry PySem.F.slot_NoneType_hash hT PySem.F.entry_NoneType_hash
  (wpAny_bind (wpAny_pure (wpAny_bind (wpAny_mkInt (wpAny_pure ⟨_,rfl,?_⟩))))) (PySem.F.args_NoneType_hash_1 _)))
 show wpAny _ _ (if (decide (-(2:Int) ^ 63 ≤ 0xFCA86420) && decide ((0xFCA86420:Int) < 2 ^ 63)) = true then _ else _) Q E _
 rw [if_pos (by decide)]; exact wpAny_pure h
def optKind (prog : Program) (w : World) : PySem.KeyKind prog w (Option Int) where
 is:=okIs
 hash:=okH
 inj:=fun v a b ha hb=>by
  rcases zaQ ha with ⟨rfl,rfl⟩ | ⟨i,t,rfl,rfl⟩
  ·rcases zaQ hb with ⟨rfl,_⟩ | ⟨j,u,rfl,e⟩
   ·rfl
   ·cases e
  ·rcases zaQ hb with ⟨rfl,e⟩ | ⟨j,u,rfl,e⟩
   ·cases e
   ·injection e with e1 _; rw [e1]
 byValue:=fun k v h=>by rcases zaQ h with ⟨rfl,rfl⟩ | ⟨i,t,rfl,rfl⟩ <;> rfl
 pyHash:=fun hv h=>by
  rcases zaQ hv with ⟨rfl,rfl⟩ | ⟨i,t,rfl,rfl⟩
  ·exact zjI h
  ·exact wpAny_pyHash_int h
 eqBool:=fun hu hv h=>by
  rcases zaQ hu with ⟨rfl,rfl⟩ | ⟨i,t,rfl,rfl⟩
  ·rcases zaQ hv with ⟨rfl,rfl⟩ | ⟨j,u,rfl,rfl⟩
   ·exact SeqAt.EqAt.same _ _ _ _ _ h
   ·exact SeqAt.EqAt.none_int j u _ _ _ _ h
  ·rcases zaQ hv with ⟨rfl,rfl⟩ | ⟨j,u,rfl,rfl⟩
   ·exact SeqAt.EqAt.int_none i t _ _ _ _ h
   ·have e:decide (some i = some j) = (i == j):=by
     by_cases z:i = j
     ·subst z; simp
     ·rw [decide_eq_false (fun q=>z (Option.some.inj q))]; exact (beq_eq_false_iff_ne.mpr z).symm
    rw [e] at h; exact wpAny_eqBool_int h
 «strs» := fun k x t v h=>by
  rcases zaQ h with ⟨_,e⟩ | ⟨_,_,_,e⟩ <;> cases e
def objO (a:Addr) (o:Obj) : HO:=.ext fun h=>h.get? a = some o
theorem ziu {P:Program} {w:World} {H:Hp} {h:Heap} {a:Addr} {o:Obj} (e:h.get? a = some o) : ObjOk P w H h a (objO a o):=⟨e,⟨o,e⟩,fun _ _ p k=>k o p⟩
structure OfN (P:Program) (w:World) (a:Addr) (o:Obj) (kvs:List (Option Int × V)) : Prop where
 len:kvs.length ≤ sizeLine
 sys:(a == sysModules) = false
 ex:∃ (vs:List (Option Int × Value)) (es:Array DictEntry) (ep:Nat),KV kvs vs ∧ o.ExactDict ∧ o.data = .dict es ep ∧ KeysOf (optKind P w) es ∧ Pairs (optKind P w) es.toList vs ∧ (vs.map (·.1)).Nodup
theorem OfN.nd {P:Program} {w:World} {a:Addr} {o:Obj} {kvs:List (Option Int × V)} (x:OfN P w a o kvs) : (kvs.map (·.1)).Nodup:=by
 obtain ⟨vs,_,_,r,_,_,_,_,n⟩:=x.ex; rw [r.keys]; exact n
section
variable {X:Cx} {pins:List (Addr × Obj)} {σ:St} {H:Hp} {s:Shared} {a:Addr} {o:Obj} {kvs:List (Option Int × V)}
theorem zdH (I:Inv X pins σ H s) (e:H a = some (objO a o)) (x:OfN X.prog X.w a o kvs) : s.heap.get? a = some o ∧ ∃ vs,KV kvs vs ∧ s.heap.DictOf (optKind X.prog X.w) a vs:=by
 obtain ⟨vs,es,ep,r,h1,h2,h3,h4,h5⟩:=x.ex
 have g:s.heap.get? a = some o:=(I.hok a _ e).1
 exact ⟨g,vs,r,o,es,ep,g,h1,h2,h3,h4,h5⟩
theorem zoo {P:Program} {w:World} {h:Heap} {vs:List (Option Int × Value)} (l:kvs.length ≤ sizeLine) (sy:(a == sysModules) = false) (r:KV kvs vs) (d:h.DictOf (optKind P w) a vs) : ∃ o,h.get? a = some o ∧ OfN P w a o kvs:=by
 obtain ⟨o,es,ep,g,h1,h2,h3,h4,h5⟩:=d
 exact ⟨o,g,l,sy,vs,es,ep,r,h1,h2,h3,h4,h5⟩
end
def zlo (P:Program) (w:World) : TE:=fun _ H Q=>∀ a o,H a = none → OfN P w a o [] → Q (.ref a) (upd H a (objO a o))
def zmo (P:Program) (w:World) (td:TE) (ty tx:TE) : TE:=fun σ H Q=>td σ H fun x H1=>∃ a o kvs,x = .ref a ∧ H1 a = some (objO a o) ∧ OfN P w a o kvs ∧ ty σ H1 fun y H2=>tx σ H2 fun z H3=>∃ o kvs k,H3 a = some (objO a o) ∧ OfN P w a o kvs ∧ y = vO k ∧ kvs.length < sizeLine ∧
 (∀ v,valV kvs k = some v → Q v H3) ∧ (valV kvs k = none → ∀ o',OfN P w a o' (kvs ++ [(k,z)]) → Q z (upd H3 a (objO a o')))
def zog (P:Program) (w:World) (td:TE) (ty tx:TE) : TE:=fun σ H Q=>td σ H fun x H1=>∃ a o kvs,x = .ref a ∧ H1 a = some (objO a o) ∧ OfN P w a o kvs ∧ ty σ H1 fun y H2=>tx σ H2 fun z H3=>∃ o kvs k,H3 a = some (objO a o) ∧ OfN P w a o kvs ∧ y = vO k ∧ Q ((valV kvs k).getD z) H3
def tIxN (P:Program) (w:World) (td ty:TE) : TE:=fun σ H Q=>td σ H fun x H1=>ty σ H1 fun y H2=>∃ a o kvs k v,x = .ref a ∧ H2 a = some (objO a o) ∧ OfN P w a o kvs ∧ y = vO k ∧ valV kvs k = some v ∧ Q v H2
section
variable {X:Cx} {o e f i:Expr} {apos cpos pos:Pos} {td ty tx:TE}
theorem zkn:PE X (.Dict [] [] pos) (zlo X.prog X.w):=fun pins s σ H Q I h=>by
 have g:(s.heap.push { cls:=.type "dict", data:=.dict #[] }).get? s.heap.objs.size = some { cls:=.type "dict", data:=.dict #[] }:=Heap.get?_push_size _ rfl
 refine wpAny_Dict_empty ⟨.ref s.heap.objs.size,_,I.laid (a:=s.heap.objs.size) (o:=objO s.heap.objs.size { cls:=.type "dict", data:=.dict #[] }) (t':=s.toks) (fun _ _ q=>Heap.get?_push_of_some _ q) (Nat.le_refl _) (ziu g),rfl,h _ _ (I.hok.fresh (Nat.le_refl _)) ⟨Nat.zero_le _,beq_eq_false_iff_ne.mpr (Ne.symm (Nat.ne_of_lt I.big)),[],#[],0,.nil,⟨rfl,rfl,rfl⟩,rfl,fun _ he=>by simp at he,.nil,List.nodup_nil⟩⟩
theorem zmE (ho:PE X o td) (he:PE X e ty) (hf:PE X f tx) (m:M2 X o "setdefault" apos e f cpos) : PE X (.Call (.Attribute o "setdefault" apos) [e,f] [] cpos) (zmo X.prog X.w td ty tx):=by
 intro pins s σ H Q I h
 refine wpAny_Call_method m.base m.few m.line PySem.F.plainAttrs_dict PySem.F.slot_dict_setdefault PySem.F.type_dict_setdefault (thn (ho pins s σ H _ I h) fun u s1 ⟨x,H1,I1,rx,a,ob,kvs,ex,d,n,q1⟩=>?_)
 subst ex
 obtain rfl:u = Value.ref a:=rx
 obtain ⟨g,vs,_,dd⟩:=zdH I1 d n
 refine ⟨dd.typeIs,fun b q=>by cases q; obtain ⟨ob,_,_,h1,h2,_⟩:=dd; exact ⟨ob,h1,h2.2.1⟩,?_⟩
 rw [m.trees]
 refine Calls.callWith_builtin rfl (Calls.evalArgs_plain (Calls.spliced_cons (thn (he pins s1 σ H1 _ I1 q1) fun iv s2 ⟨y,H2,I2,ry,q2⟩ =>
  Calls.spliced_cons (thn (hf pins s2 σ H2 _ I2 q2) fun fv s3 ⟨z,H3,I3,rz,ob3,kvs3,k,e3,n3,ey,l3,q3,q4⟩=>Calls.spliced_nil ?_))))
 subst ey
 obtain ⟨g3,vs3,r3,d3⟩:=zdH I3 e3 n3
 refine call_meetsIn PySem.F.slot_dict_setdefault d3.typeIs PySem.F.entry_dict_setdefault (PySem.F.args_dict_setdefault_3 _ _ _) (kt_meets_setdefault (optKind X.prog X.w) a (zgV ry) n3.sys fv) ⟨vs3,d3,by rw [← r3.length]; exact n3.len,fun v hv=>?_,fun hv h' d' sb=>?_⟩
 ·have rv:=r3.val k
  rw [hv] at rv
  cases ev:valV kvs3 k with
  | none=>rw [ev] at rv; cases rv
  | some v'=>rw [ev] at rv; exact ⟨v',H3,I3.tok _,rv,q3 v' ev⟩
 ·have rv:=r3.val k
  rw [hv] at rv
  cases ev:valV kvs3 k with
  | some v'=>rw [ev] at rv; cases rv
  | none =>
   have ep:putK kvs3 k z = kvs3 ++ [(k,z)]:=by unfold putK; rw [zdS,ev]; rfl
   have rp:=r3.put k rz
   rw [ep] at rp
   obtain ⟨o',g',n'⟩:=zoo (P:=X.prog) (w:=X.w) (a:=a) (by rw [List.length_append]; exact l3) n3.sys rp d'
   exact ⟨z,_,zfM (ob:=objO a o') I3 (by rw [e3]; exact True.intro) sb ⟨o',g'⟩ (ziu g'),rz,q4 ev o' n'⟩
theorem zmM (ho:PE X o td) (he:PE X e ty) (hf:PE X f tx) (m:M2 X o "get" apos e f cpos) : PE X (.Call (.Attribute o "get" apos) [e,f] [] cpos) (zog X.prog X.w td ty tx):=by
 intro pins s σ H Q I h
 refine wpAny_Call_method m.base m.few m.line PySem.F.plainAttrs_dict PySem.F.slot_dict_get PySem.F.type_dict_get (thn (ho pins s σ H _ I h) fun u s1 ⟨x,H1,I1,rx,a,ob,kvs,ex,d,n,q1⟩=>?_)
 subst ex
 obtain rfl:u = Value.ref a:=rx
 obtain ⟨g,vs,_,dd⟩:=zdH I1 d n
 refine ⟨dd.typeIs,fun b q=>by cases q; obtain ⟨ob,_,_,h1,h2,_⟩:=dd; exact ⟨ob,h1,h2.2.1⟩,?_⟩
 rw [m.trees]
 refine Calls.callWith_builtin rfl (Calls.evalArgs_plain (Calls.spliced_cons (thn (he pins s1 σ H1 _ I1 q1) fun iv s2 ⟨y,H2,I2,ry,q2⟩ =>
  Calls.spliced_cons (thn (hf pins s2 σ H2 _ I2 q2) fun fv s3 ⟨z,H3,I3,rz,ob3,kvs3,k,e3,n3,ey,q3⟩=>Calls.spliced_nil ?_))))
 subst ey
 obtain ⟨g3,vs3,r3,d3⟩:=zdH I3 e3 n3
 exact call_meetsIn PySem.F.slot_dict_get d3.typeIs PySem.F.entry_dict_get (PySem.F.args_dict_get_3 _ _ _) (meets_dict_get_default (optKind X.prog X.w) a (zgV ry) n3.sys fv) ⟨_,d3.mapOf,_,H3,I3.tok _,(r3.val k).getD rz,q3⟩
theorem znh (ho:PE X o td) (hi:PE X i ty) (hs:NoSl i) : PE X (.Subscript o i pos) (tIxN X.prog X.w td ty):=by
 intro pins s σ H Q I h
 refine zjL PySem.F.slot_dict_getitem.lookup hs (thn (ho pins s σ H _ I h) fun u s1 ⟨x,H1,I1,rx,q1⟩=>thn (hi pins s1 σ H1 _ I1 q1) fun iv s2 ⟨y,H2,I2,ry,a,ob,kvs,k,v,ex,e2,n2,ey,ev,q2⟩=>?_)
 subst ex ey
 obtain rfl:u = Value.ref a:=rx
 obtain ⟨g,vs,r,dd⟩:=zdH I2 e2 n2
 obtain ⟨w',hw,rw'⟩:=RelO.some_of (v:=v) (o:=valueAt vs k) (by rw [← ev]; exact r.val k)
 exact ⟨dd.typeIs,wpAny_getItem_of (knd:=optKind X.prog X.w) (zgV ry) dd.mapOf hw ⟨v,H2,I2.tok _,rw',q2⟩⟩
end
def Itn (P:Program) (w:World) (a:Addr) (o:Obj) : It :=
 ⟨fun i H=>∃ kvs,H a = some (objO a o) ∧ OfN P w a o kvs ∧ i < kvs.length,fun i H v H'=>H' = H ∧ ∀ kvs,OfN P w a o kvs → ∃ p,kvs[i]? = some p ∧ v = vO p.1,fun i H=>∃ kvs,H a = some (objO a o) ∧ OfN P w a o kvs ∧ kvs.length ≤ i⟩
theorem zgy {P:Program} {w:World} {es:List DictEntry} {vs:List (Option Int × Value)} (h:Pairs (optKind P w) es vs) : ∀ {i:Nat} {e:DictEntry},es[i]? = some e → ∃ p,vs[i]? = some p ∧ okIs p.1 e.key = true:=by
 induction h with
 | nil=>intro i e h; simp at h
 | cons h1 h2 _ ih =>
  intro i e h
  cases i with
  | zero=>simp at h; subst h; exact ⟨_,rfl,h1⟩
  | succ i=>exact ih (by simpa using h)
theorem znq {kvs:List (Option Int × V)} {vs:List (Option Int × Value)} (r:KV kvs vs) {i:Nat} {q:Option Int × Value} (h:vs[i]? = some q) : ∃ p,kvs[i]? = some p ∧ p.1 = q.1:=by
 have r2:Paired (fun (p:Option Int × V) (q:Option Int × Value)=>p.1 = q.1 ∧ RelV p.2 q.2) kvs vs:=r
 induction r2 generalizing i with
 | nil=>simp at h
 | cons h1 _ ih =>
  cases i with
  | zero=>simp at h; subst h; exact ⟨_,rfl,h1.1⟩
  | succ i=>exact ih (by assumption) (by simpa using h)
theorem zhZ {P:Program} {w:World} {K:PySem.W.Frag} {tg:Expr} {o:Obj} {es:Array DictEntry} {ep:Nat} (d it:Addr) (hne:d ≠ it) (hx:o.ExactDict) (hdt:o.data = .dict es ep) :
  Turn P w K tg (Itn P w d o) [it] it (fun i h=>h.IsKeyIter it d i es.size ep) where
 mem:=by simp
 obj:=fun i h st b hb=>by
  have e:b = it:=by simpa using hb
  subst e; obtain ⟨o,e,c,d⟩:=st
  exact ⟨o,e,fun v z=>by rw [d] at z; cases z⟩
 keep:=fun i h h' st k=>st.at fun o e=>k it (by simp) o e
 item:=by
  intro X hP hw hK hc i pins s σ H E I hf st hg
  subst hP hw hK
  obtain ⟨kvs,hH,n,hi⟩:=hg
  obtain ⟨ho,_⟩:=zdH I hH n
  obtain ⟨vs,es',ep',r,_,dt,_,pr,_⟩:=n.ex
  rw [hdt] at dt
  cases dt
  have hsz:es.size = kvs.length:=by have:=pr.length; rw [Array.length_toList] at this; rw [this,r.length]
  obtain ⟨f0,f1,f2,f3,f4,f5⟩:=hf it (by simp)
  have hx':es[i]? = some es[i]:=by simp [hsz,hi]
  refine Wr.rd_next st ⟨o,ho,hx,hdt⟩ hx' fun h' st' sb=>?_
  have I1:Inv X pins σ H { s with heap:=h' }:=I.turned (t':=s.toks) (fun b o hb e=>(sb.2 b hb).trans e) f0 f1 f3 f4 f5
  obtain ⟨oi,e,c,dd⟩:=id st'
  obtain ⟨q,hq1,hq2⟩:=zgy pr (i:=i) (e:=es[i]) (by rw [Array.getElem?_toList]; exact hx')
  refine ⟨_,rfl,zj0 (s:={ s with heap:=h' }) e c dd (by decide) ⟨vO q.1,H,I1,zoI hq2,⟨rfl,fun kvs' n'=>?_⟩,st',fun b hb=>(hf b hb).1⟩⟩
  obtain ⟨vs2,es2,ep2,r2,_,dt2,_,pr2,_⟩:=n'.ex
  rw [hdt] at dt2
  cases dt2
  obtain ⟨q2,a1,a2⟩:=zgy pr2 (i:=i) (e:=es[i]) (by rw [Array.getElem?_toList]; exact hx')
  obtain ⟨p,b1,b2⟩:=znq r2 a1
  refine ⟨p,b1,?_⟩
  rw [b2,(optKind X.prog X.w).inj _ _ _ hq2 a2]
 done:=by
  intro X hP hw hK hc i pins s σ H E I hf st hg
  subst hP hw hK
  obtain ⟨kvs,hH,n,hi⟩:=hg
  obtain ⟨ho,_⟩:=zdH I hH n
  obtain ⟨vs,es',ep',r,_,dt,_,pr,_⟩:=n.ex
  rw [hdt] at dt
  cases dt
  have hsz:es.size = kvs.length:=by have:=pr.length; rw [Array.length_toList] at this; rw [this,r.length]
  obtain ⟨f0,f1,f2,f3,f4,f5⟩:=hf it (by simp)
  exact Wr.rd_end (I.ok.hd hc) st ⟨o,ho,hx,hdt⟩ (by rw [hsz]; exact hi) fun h' eb=>⟨rfl,I.turned (t':=s.toks) (fun b o hb e=>eb b o hb e) f0 f1 f3 f4 f5⟩
 self:=fun _ _ _ _ _ st h=>wpAny_pyIter_keyiter st h
def zll (P:Program) (w:World) (te:TE) : TI:=fun σ H R=>te σ H fun x H1=>∃ (a:Addr) (o:Obj) (kvs:List (Option Int × V)),x = .ref a ∧ H1 a = some (objO a o) ∧ OfN P w a o kvs ∧ R (Itn P w a o) H1
section
variable {X:Cx} {e o f i:Expr} {te td ty tx:TE} {k:Nat} {tg:Expr} {apos cpos pos:Pos}
theorem zkX (he:PE X e te) : PI X tg e (zll X.prog X.w te):=by
 intro pins s σ H R I h
 refine thn (he pins s σ H _ I h) fun v s1 ⟨x,H1,I1,r1,a,ob,kvs,ex,hH,n,q⟩=>?_
 subst ex
 cases r1
 obtain ⟨ho,_⟩:=zdH I1 hH n
 obtain ⟨vs,es,ep,r,xd,dt,_,pr,_⟩:=n.ex
 have ne:a ≠ s1.heap.objs.size:=Nat.ne_of_lt (Heap.lt_size ho)
 refine Wr.rd_iter n.sys ⟨ob,ho,xd,dt⟩ fun h' st k=>⟨s1.heap.objs.size,[s1.heap.objs.size],_,_,H1,rfl,I1.kept (t':=s1.toks) k,zhZ a _ ne xd dt,st,fun b hb=>?_,q⟩
 have e:b = s1.heap.objs.size:=by simpa using hb
 subst e
 exact I1.fpOk (Nat.le_refl _) (I1.hok.fresh (Nat.le_refl _))
theorem zmR:JE X (.Dict [] [] pos) (zlo X.prog X.w):=⟨zkn⟩
theorem zly (ho:JE X o td) (he:JE X e ty) (hf:JE X f tx) (hbase:attributeBase o "setdefault" X.env (eval o X.env) = eval o X.env:=by rfl) (hline:(apos.endLine == cpos.line) = true:=by rfl)
  (ht:∀ r,backTo cpos (starEach [e,f] X.env) = r → r = [(false,eval e X.env),(false,eval f X.env)]:=by intro _ h; exact h ▸ rfl) :
  JE X (.Call (.Attribute o "setdefault" apos) [e,f] [] cpos) (zmo X.prog X.w td ty tx):=⟨zmE ho.h he.h hf.h ⟨hbase,by rw [ht _ rfl]; rfl,hline,ht _ rfl⟩⟩
theorem zoa (ho:JE X o td) (he:JE X e ty) (hf:JE X f tx) (hbase:attributeBase o "get" X.env (eval o X.env) = eval o X.env:=by rfl) (hline:(apos.endLine == cpos.line) = true:=by rfl)
  (ht:∀ r,backTo cpos (starEach [e,f] X.env) = r → r = [(false,eval e X.env),(false,eval f X.env)]:=by intro _ h; exact h ▸ rfl) :
  JE X (.Call (.Attribute o "get" apos) [e,f] [] cpos) (zog X.prog X.w td ty tx):=⟨zmM ho.h he.h hf.h ⟨hbase,by rw [ht _ rfl]; rfl,hline,ht _ rfl⟩⟩
theorem zox (ho:JE X o td) (hi:JE X i ty) (hs:NoSl i:=by intro _ _; rfl) : JE X (.Subscript o i pos) (tIxN X.prog X.w td ty):=⟨znh ho.h hi.h hs⟩
theorem zl1 (h:JE X e te) : JI X tg e (zll X.prog X.w te):=⟨zkX h.h⟩
end
theorem zh4 {P:Program} {w:World} {ob:Obj} {d:Addr} {kvs:List (Option Int × V)} {g:TG} {tt:TT} {te:TE} {Q:VK} {σ:St} {H:Hp} {D:Addr} (n:OfN P w d ob kvs) (Pv:Nat → St → Hp → Prop) (h0:Pv 0 σ H) (hl:∀ i σ H,i ≤ kvs.length → Pv i σ H → H d = some (objO d ob))
  (hs:∀ i p σ H,kvs[i]? = some p → Pv i σ H → g (vO p.1) σ H fun σ2 H2=>tt σ2 H2 fun b H3=>if b = true then te σ2 H3 fun v H4=>∃ zs,H4 D = some (.lst zs) ∧ zs.length < sizeLine ∧ Pv (i + 1) σ2 (upd H4 D (.lst (zs ++ [v]))) else Pv (i + 1) σ2 H3)
  (hd:∀ σ H,Pv kvs.length σ H → Q (.ref D) H) : zdw (Itn P w d ob) g tt te D Q σ H:=by
 refine ⟨fun i m σ H=>m = kvs.length - i ∧ i ≤ kvs.length ∧ Pv i σ H,⟨kvs.length,by simp,Nat.zero_le _,h0⟩,?_⟩
 rintro i m σ H ⟨rfl,hi,p⟩
 have q:=hl i σ H hi p
 by_cases hlt:i < kvs.length
 ·refine .inr ⟨⟨kvs,q,n,hlt⟩,fun σ' H'=>Pv (i + 1) σ' H',fun σ' H' p'=>⟨kvs.length - (i + 1),by omega,rfl,hlt,p'⟩,fun x H' y=>?_⟩
  obtain ⟨e,y⟩:=y
  subst e
  obtain ⟨z,e1,rfl⟩:=y kvs n
  exact hs i z σ _ e1 p
 ·have e:i = kvs.length:=by omega
  subst e
  exact .inl ⟨⟨kvs,q,n,Nat.le_refl _⟩,hd σ H p⟩
end L2
namespace L2
open PySem PySem.Spec PyProof.Rows
structure MethP (P:Program) (w:World) (K:PySem.W.Frag) (mg:Str → Option Value) (base:Heap) (k:Nat) (C:Addr) (m:Str) (ps:List Str) (sp:Sp) : Prop where
 ex:∃ (f:Addr) (fd:FuncData),FnOk P w K mg base CX0 k f fd ps sp ∧ Meth K C m f ∧ Binds K fd ps []
 cl:Cls K C
structure MkP (P:Program) (w:World) (K:PySem.W.Frag) (mg:Str → Option Value) (base:Heap) (k:Nat) (C:Addr) (x:Str) (ps:List Str) (sp:Sp) : Prop where
 ex:∃ (f:Addr) (fd:FuncData),FnOk P w K mg base CX0 k f fd ps sp ∧ Mk K C f ∧ Binds K fd ps []
 mg:mg x = some (.ref C)
section
variable {X:Cx} {k j:Nat} {C:Addr} {x m f:Str} {ps:List Str} {sp:Sp} {p pos apos pos':Pos} {e o value:Expr} {es:List Expr} {t:TA} {ta tv:TE}
theorem ziH {pl:Sem Bool} (M:MethP X.prog X.w X.K X.mg X.base k C m ps sp) (hr:Room j X.A) (ho:JE X o ta) (ha:JA X (e :: es) t) (hj:k ≤ j:=by decide)
  (ht:eval (.Call (.Attribute o m apos) (e :: es) [] pos) X.env = (do
   let ov ← eval o X.env
   standAt apos.atName
   let (f,first) ← holding [ov] (getMethod ov m pl)
   callWith pos f first (backTo pos (starEach (e :: es) X.env)) (backToKw pos (keywordEach [] X.env))):=by rfl) :
  JE X (.Call (.Attribute o m apos) (e :: es) [] pos) (zhd C m sp [] E0 ta t):=by
 obtain ⟨f,fd,F,hm,hb⟩:=M.ex
 exact ⟨zlQ ho.h M.cl hm F (hr.mono hj) hb .nil ziY ha.h (ha.hd.star _ _) (ha.rs.no _ _) ht⟩
theorem ziO {pl:Sem Bool} (M:MethP X.prog X.w X.K X.mg X.base k C m ps sp) (hr:Room j X.A) (ho:JE X o ta) (hj:k ≤ j:=by decide)
  (ht:eval (.Call (.Attribute o m apos) [] [] pos) X.env = (do
   let ov ← eval o X.env
   standAt apos.atName
   let (f,first) ← holding [ov] (getMethod ov m pl)
   callWith pos f first (backTo pos (starEach [] X.env)) (backToKw pos (keywordEach [] X.env))):=by rfl) :
  JE X (.Call (.Attribute o m apos) [] [] pos) (zhd C m sp [] E0 ta tNil):=by
 obtain ⟨f,fd,F,hm,hb⟩:=M.ex
 exact ⟨zj3 ho.h M.cl hm F (hr.mono hj) hb .nil ziY ht⟩
theorem znE (M:MkP X.prog X.w X.K X.mg X.base k C x ps sp) (hr:Room j X.A) (ha:JA X (e :: es) t) (hj:k + 1 ≤ j:=by decide) (hg:Gl X x:=by rfl) (hdb:(x == ("__debug__" : Str)) = false:=by decide +kernel) :
  JE X (.Call (.Name x p) (e :: es) [] pos) (zop C sp [] E0 t):=by
 obtain ⟨f,fd,F,hm,hb⟩:=M.ex
 exact ⟨zmr hm F (hr.mono hj) hg M.mg hb .nil ziY ha.h hdb (ha.hd.star _ _) (ha.rs.no _ _)⟩
theorem zhh (ho:JE X e ta) (hb:attributeBase e f X.env (eval e X.env) = eval e X.env:=by rfl) : JE X (.Attribute e f pos) (tFld X.K ta f):=⟨zob ho.h hb⟩
theorem zjj (ho:JE X o ta) (hv:JE X value tv) (hs:swapsWith value (some (.Attribute o f pos')) pos.line X.env = pure false:=by rfl) : JS X (.Assign [.Attribute o f pos'] value pos) (sFld X.K ta tv f):=⟨znR ho.h hv.h hs⟩
end
end L2
namespace Prf
open PySem L2 Wr
theorem zcQ {f g:Str} {v x:V} {r:List (Str × V)} (h:g ≠ f) : putF f v ((g,x) :: r) = (g,x) :: putF f v r:=by show (if g = f then _ else _) = _; rw [if_neg h]
theorem zmA {f:Str} {v x:V} {r:List (Str × V)} : putF f v ((f,x) :: r) = (f,v) :: r:=by show (if f = f then _ else _) = _; rw [if_pos rfl]
theorem zix {f g:Str} {x:V} {r:List (Str × V)} (h:f ≠ g) : ((g,x) :: r).lookup f = r.lookup f:=by rw [List.lookup_cons,beq_eq_false_iff_ne.mpr h]
theorem znV {f:Str} {x:V} {r:List (Str × V)} : ((f,x) :: r).lookup f = some x:=by rw [List.lookup_cons,beq_self_eq_true]
def Off (x:Addr) (H H':Hp) : Prop:=∀ c o,c ≠ x → H c = some o → H' c = some o
theorem Off.refl (x:Addr) (H:Hp) : Off x H H:=fun _ _ _ h=>h
theorem Off.trans {x:Addr} {H H1 H2:Hp} (a:Off x H H1) (b:Off x H1 H2) : Off x H H2:=fun c o n h=>b c o n (a c o n h)
theorem zhj {x:Addr} {H H':Hp} (s:Same H H') : Off x H H':=fun c o _ h=>s c o h
theorem Off.upd {x:Addr} {H H':Hp} {o:HO} (a:Off x H H') : Off x H (upd H' x o):=fun c u n h=>by rw [zai n]; exact a c u n h
def SumsAt (H:Hp) (l:Addr) : Prop:=∃ u,H l = some (.lst [.ref u]) ∧ H u = some (.tup [.str "count"])
def talF (l t r:Addr) (h:Int) : List (Str × V):=[("sums", .ref l),("height", .int h),("totals", .ref t),("rising", .ref r)]
def zcA (C:Addr) (H:Hp) (x l:Addr) (h:Int) : Prop:=∃ dx t r,H x = some (.ins C dx (talF l t r h))
structure Tly (K:PySem.W.Frag) (C:Addr) : Prop where
 cl:Cls K C
 n1:NoAttr K C "sums"
 n2:NoAttr K C "height"
 n3:NoAttr K C "totals"
 n4:NoAttr K C "rising"
theorem s12:("sums" : Str) ≠ "height" := by decide +kernel
theorem s13:("sums" : Str) ≠ "totals" := by decide +kernel
theorem s14:("sums" : Str) ≠ "rising" := by decide +kernel
theorem s23:("height" : Str) ≠ "totals" := by decide +kernel
theorem s24:("height" : Str) ≠ "rising" := by decide +kernel
theorem s34:("totals" : Str) ≠ "rising" := by decide +kernel
theorem zdT {l t r:Addr} {h:Int} : (talF l t r h).lookup ("sums" : Str) = some (.ref l):=znV
theorem zcv {l t r:Addr} {h:Int} : (talF l t r h).lookup ("height" : Str) = some (.int h):=by unfold talF; rw [zix s12.symm,znV]
theorem zjO {l t r:Addr} {h h':Int} : putF "height" (.int h') (talF l t r h) = talF l t r h':=by unfold talF; rw [zcQ s12,zmA]
theorem zjz {l t r:Addr} {h:Int} {m:Str} (a:m ≠ "sums") (b:m ≠ "height") (c:m ≠ "totals") (d:m ≠ "rising") : (talF l t r h).lookup m = none:=by unfold talF; rw [zix a,zix b,zix c,zix d]; rfl
section
variable {P:Program} {w:World} {K:PySem.W.Frag} {mg:Str → Option Value} {base:Heap}
def zfm (C:Addr) : Sp:=fun vs H Q _=>∃ (x dx l:Addr),vs = [.ref x,.ref l] ∧ H x = some (.ins C dx []) ∧ SumsAt H l ∧ ∀ H',Off x H H' → zcA C H' x l 0 → Q .non H'
theorem zkj:FnScope ["self","sums"] ["self","sums"] (zad zck):=⟨rfl,rfl,rfl,by decide +kernel,rfl,by decide +kernel,by decide +kernel⟩
theorem zkQ {f C:Addr} {fd:FuncData} (F:Fun K "__init__" "Tally.__init__" zck f fd) (T:Tly K C) : FnOk P w K mg base CX0 1 f fd ["self","sums"] (zfm C):=by
 refine F.okJ zkj (fun vs H Q E h=>?_) (fun cdv A outer s H vs Q E hr h=>?_)
 ·obtain ⟨_,_,_,rfl,_⟩:=h
  rfl
 ·obtain ⟨x,dx,l,rfl,hx,⟨u,hl,hu⟩,k⟩:=h
  have nd1:(["each"] : List Str).Nodup:=by decide +kernel
  refine ⟨_,(zab (zjj (e_v 0) (e_v 1))
   (zab (zjj (e_v 0) e_i)
   (zab (zjj (e_v 0) (zaZ (Nc:=["each"]) (js:=[none]) (g:=(zaw 0)) (tt:=tYes) (te:=(tC (.int 0)))
   (zaB rfl rfl rfl rfl (fun x c h=>by cases h) rfl rfl rfl) (zat (e_v 1))
   (fun pins C s3 H3 fp=>⟨(g_n 0 nd1),.inl ⟨rfl,rfl⟩,e_i⟩)))
   (zag (zjj (e_v 0) (zaZ (Nc:=["each"]) (js:=[none]) (g:=(zaw 0)) (tt:=tYes) (te:=(tLst tNil))
   (zaB rfl rfl rfl rfl (fun x c h=>by cases h) rfl rfl rfl) (zat (e_v 1))
   (fun pins C s3 H3 fp=>⟨(g_n 0 nd1),.inl ⟨rfl,rfl⟩,(zbl a0)⟩))))))),?_⟩
  have nlx:l ≠ x:=zbt hl hx (by intro z; cases z)
  refine ⟨_,rfl,_,rfl,x,C,dx,_,rfl,hx,T.cl,T.n1,by decide,?_⟩
  have u1:upd H x (.ins C dx (putF "sums" (.ref l) [])) x = some (.ins C dx [("sums", .ref l)]):=zaa
  have o1:Off x H (upd H x (.ins C dx (putF "sums" (.ref l) []))):=(Off.refl x H).upd
  generalize upd H x (.ins C dx (putF "sums" (.ref l) [])) = H1 at u1 o1 ⊢
  refine ⟨_,rfl,x,C,dx,_,rfl,u1,T.cl,T.n2,by show 1 < 1000; decide,?_⟩
  have u2:upd H1 x (.ins C dx (putF "height" (.int 0) [("sums", .ref l)])) x = some (.ins C dx [("sums", .ref l),("height", .int 0)]):=by rw [zaa,zcQ s12]; rfl
  have o2:Off x H (upd H1 x (.ins C dx (putF "height" (.int 0) [("sums", .ref l)]))):=o1.upd
  generalize upd H1 x (.ins C dx (putF "height" (.int 0) [("sums", .ref l)])) = H2 at u2 o2 ⊢
  have hl2:=o2 _ _ nlx hl
  refine ⟨_,rfl,l,rfl,⟨_,SqL.of hl2⟩,fun D hD=>?_⟩
  refine zaC (K:=K) (a:=l) (xs:=[.ref u]) (fun j _ σ H4=>∃ (o:Option V) (zs:List V),σ = [o] ∧ Same H2 H4 ∧ H4 D = some (.lst zs) ∧ zs.length ≤ j)
   ⟨none,[],rfl,(Same.refl H2).upd hD,zaa,Nat.zero_le _⟩ (fun j _ σ H4 _ ⟨_,_,_,sm,_⟩=>SqL.of (sm _ _ hl2)) ?_ ?_
  ·rintro j y _ σ H4 hy ⟨o,zs,rfl,sm,h4,lz⟩
   have hj:=(List.getElem?_eq_some_iff.mp hy).1
   exact ⟨zs,h4,zae (by simp at hj; omega),[],_,zs ++ [.int 0],rfl,sm.upd hD,zaa,by rw [List.length_append]; simp; omega⟩
  rintro _ σ H3 ⟨o,zs,rfl,s3,h3,_⟩
  refine ⟨_,rfl,x,C,dx,_,rfl,s3 _ _ u2,T.cl,T.n3,by show 2 < 1000; decide,?_⟩
  have u4:upd H3 x (.ins C dx (putF "totals" (.ref D) [("sums", .ref l),("height", .int 0)])) x = some (.ins C dx [("sums", .ref l),("height", .int 0),("totals", .ref D)]):=by rw [zaa,zcQ s13,zcQ s23]; rfl
  have o4:Off x H (upd H3 x (.ins C dx (putF "totals" (.ref D) [("sums", .ref l),("height", .int 0)]))):=(o2.trans (zhj s3)).upd
  generalize upd H3 x (.ins C dx (putF "totals" (.ref D) [("sums", .ref l),("height", .int 0)])) = H4 at u4 o4 ⊢
  have hl4:=o4 _ _ nlx hl
  refine ⟨_,rfl,l,rfl,⟨_,SqL.of hl4⟩,fun E hE=>?_⟩
  refine zaC (K:=K) (a:=l) (xs:=[.ref u]) (fun j _ σ H5=>∃ (o:Option V) (zs:List V),σ = [o] ∧ Same H4 H5 ∧ H5 E = some (.lst zs) ∧ zs.length ≤ j)
   ⟨none,[],rfl,(Same.refl H4).upd hE,zaa,Nat.zero_le _⟩ (fun j _ σ H5 _ ⟨_,_,_,sm,_⟩=>SqL.of (sm _ _ hl4)) ?_ ?_
  ·rintro j y _ σ H5 hy ⟨o,zs,rfl,sm,h5,lz⟩
   have hj:=(List.getElem?_eq_some_iff.mp hy).1
   refine ⟨Nat.zero_le _,fun q hq=>?_⟩
   have s6:Same H5 (upd H5 q (.lst [])):=(Same.refl H5).upd hq
   exact ⟨zs,s6 _ _ h5,zae (by simp at hj; omega),[],_,zs ++ [.ref q],rfl,(sm.trans s6).upd hE,zaa,by rw [List.length_append]; simp; omega⟩
  rintro _ σ H5 ⟨o,zs,rfl,s5,h5,_⟩
  refine ⟨_,rfl,x,C,dx,_,rfl,s5 _ _ u4,T.cl,T.n4,by show 3 < 1000; decide,?_⟩
  refine k _ (o4.trans (zhj s5)).upd ⟨dx,D,E,?_⟩
  rw [zaa,zcQ s14,zcQ s24,zcQ s34]; rfl
def zdU (C:Addr) : Sp:=fun vs H Q _=>∃ (x l:Addr) (y:V) (b:Bool) (h:Int),vs = [.ref x,y,.bl b] ∧ zcA C H x l h ∧ SumsAt H l ∧ ∀ H',Off x H H' → zcA C H' x l (h + if b then 1 else -1) → Q .non H'
theorem zhJ:FnScope ["self","row","comes","place","each","cell"] ["self","row","comes"] (zad zfx):=⟨rfl,rfl,rfl,by decide +kernel,rfl,by decide +kernel,by decide +kernel⟩
theorem zk1 {f C:Addr} {fd:FuncData} (F:Fun K "turn" "Tally.turn" zfx f fd) (T:Tly K C) (B:Blts mg) : FnOk P w K mg base CX0 1 f fd ["self","row","comes"] (zdU C):=by
 refine F.okJ zhJ (fun vs H Q E h=>?_) (fun cdv A outer s H vs Q E hr h=>?_)
 ·obtain ⟨_,_,_,_,_,rfl,_⟩:=h
  rfl
 ·obtain ⟨x,l,y,b,h,rfl,⟨dx,t,r,hx⟩,⟨u,hl,hu⟩,k⟩:=h
  have nd:=zhJ.nd
  refine ⟨_,(zab (zjj (e_v 0) (e_op zbu (zhh (e_v 0)) (zoN (zcz (e_v 2)) e_i (e_un zej e_i))))
   (zag (zbd (zlj B.enumerate (a1 (zhh (e_v 0)))) (zbv (zaf (g_n 3 nd) (zaf (g_n 4 nd) zaR)))
    (zag (s_if (zaW o_eq (e_ix zbg (e_v 4) e_i) e_s) (zab zgj (zag zgj)) (zag (s_if (zaW o_ne (e_ix zbg (e_v 4) e_i) e_s) (zag zgj) zaS))))))),?_⟩
  have nlx:l ≠ x:=zbt hl hx (by intro z; cases z)
  have nux:u ≠ x:=zbt hu hx (by intro z; cases z)
  cases b with
  | true =>
   refine ⟨_,rfl,x,C,dx,_,_,rfl,hx,T.cl,T.n2,zcv,_,rfl,_,rfl,iteT ⟨_,_,rfl,rfl,?_⟩⟩
   refine ⟨_,rfl,x,C,dx,_,rfl,hx,T.cl,T.n2,by show 4 < 1000; decide,?_⟩
   have u1:upd H x (.ins C dx (putF "height" (.int (h + 1)) (talF l t r h))) x = some (.ins C dx (talF l t r (h + 1))):=by rw [zaa,zjO]
   have o1:Off x H (upd H x (.ins C dx (putF "height" (.int (h + 1)) (talF l t r h)))):=(Off.refl x H).upd
   have k1:∀ H',Off x H H' → zcA C H' x l (h + 1) → Q .non H':=k
   generalize upd H x (.ins C dx (putF "height" (.int (h + 1)) (talF l t r h))) = H1 at u1 o1 ⊢
   have hl1:=o1 _ _ nlx hl
   have hu1:=o1 _ _ nux hu
   refine ⟨_,rfl,x,C,dx,_,_,rfl,u1,T.cl,T.n1,zdT,l,rfl,⟨_,SqL.of hl1⟩,zfL (K:=K) (a:=l) (xs:=[.ref u]) (fun i σ H'=>∃ o3 o4,σ = [some (.ref x),some y,some (.bl true),o3,o4,none] ∧ Same H1 H') ⟨none,none,rfl,Same.refl H1⟩ (fun i σ H' _ ⟨_,_,_,sm⟩=>SqL.of (sm _ _ hl1)) ?_ ?_⟩
   ·rintro i z T' σ H' hz ⟨o3,o4,rfl,sm⟩ hT
    obtain ⟨rfl,rfl⟩ : i = 0 ∧ z = .ref u:=by
     have hi:=(List.getElem?_eq_some_iff.mp hz).1
     have hi0:i = 0:=by simp at hi; exact hi
     subst hi0; simp at hz; exact ⟨rfl,hz.symm⟩
    have s2:Same H' (upd H' T' (.tup [.int (0:Nat),.ref u])):=(Same.refl H').upd hT
    have u2:upd H' T' (.tup [.int (0:Nat),.ref u]) T' = some (.tup [.int (0:Nat),.ref u]):=zaa
    generalize upd H' T' (.tup [.int (0:Nat),.ref u]) = H2 at s2 u2 ⊢
    have hu2:=s2 _ _ (sm _ _ hu1)
    refine ⟨T',_,rfl,SqT.of u2,rfl,_,_,rfl,_,_,rfl,rfl,?_⟩
    refine ⟨_,rfl,u,_,0,_,rfl,rfl,SqT.of hu2,(show atI _ ((0:Nat) : Int) = _ from za1 rfl),rfl,_,rfl,?_⟩
    refine iteF ⟨_,rfl,u,_,0,_,rfl,rfl,SqT.of hu2,(show atI _ ((0:Nat) : Int) = _ from za1 rfl),rfl,_,rfl,?_⟩
    exact iteF ⟨_,_,rfl,sm.trans s2⟩
   ·rintro σ H' ⟨o3,o4,rfl,sm⟩
    exact k1 H' (o1.trans (zhj sm)) ⟨dx,t,r,sm _ _ u1⟩
  | false =>
   refine ⟨_,rfl,x,C,dx,_,_,rfl,hx,T.cl,T.n2,zcv,_,rfl,_,rfl,iteF ⟨_,rfl,_,_,rfl,rfl,?_⟩⟩
   refine ⟨_,rfl,x,C,dx,_,rfl,hx,T.cl,T.n2,by show 4 < 1000; decide,?_⟩
   have u1:upd H x (.ins C dx (putF "height" (.int (h + -1)) (talF l t r h))) x = some (.ins C dx (talF l t r (h + -1))):=by rw [zaa,zjO]
   have o1:Off x H (upd H x (.ins C dx (putF "height" (.int (h + -1)) (talF l t r h)))):=(Off.refl x H).upd
   have k1:∀ H',Off x H H' → zcA C H' x l (h + -1) → Q .non H':=k
   generalize upd H x (.ins C dx (putF "height" (.int (h + -1)) (talF l t r h))) = H1 at u1 o1 ⊢
   have hl1:=o1 _ _ nlx hl
   have hu1:=o1 _ _ nux hu
   refine ⟨_,rfl,x,C,dx,_,_,rfl,u1,T.cl,T.n1,zdT,l,rfl,⟨_,SqL.of hl1⟩,zfL (K:=K) (a:=l) (xs:=[.ref u]) (fun i σ H'=>∃ o3 o4,σ = [some (.ref x),some y,some (.bl false),o3,o4,none] ∧ Same H1 H') ⟨none,none,rfl,Same.refl H1⟩ (fun i σ H' _ ⟨_,_,_,sm⟩=>SqL.of (sm _ _ hl1)) ?_ ?_⟩
   ·rintro i z T' σ H' hz ⟨o3,o4,rfl,sm⟩ hT
    obtain ⟨rfl,rfl⟩ : i = 0 ∧ z = .ref u:=by
     have hi:=(List.getElem?_eq_some_iff.mp hz).1
     have hi0:i = 0:=by simp at hi; exact hi
     subst hi0; simp at hz; exact ⟨rfl,hz.symm⟩
    have s2:Same H' (upd H' T' (.tup [.int (0:Nat),.ref u])):=(Same.refl H').upd hT
    have u2:upd H' T' (.tup [.int (0:Nat),.ref u]) T' = some (.tup [.int (0:Nat),.ref u]):=zaa
    generalize upd H' T' (.tup [.int (0:Nat),.ref u]) = H2 at s2 u2 ⊢
    have hu2:=s2 _ _ (sm _ _ hu1)
    refine ⟨T',_,rfl,SqT.of u2,rfl,_,_,rfl,_,_,rfl,rfl,?_⟩
    refine ⟨_,rfl,u,_,0,_,rfl,rfl,SqT.of hu2,(show atI _ ((0:Nat) : Int) = _ from za1 rfl),rfl,_,rfl,?_⟩
    refine iteF ⟨_,rfl,u,_,0,_,rfl,rfl,SqT.of hu2,(show atI _ ((0:Nat) : Int) = _ from za1 rfl),rfl,_,rfl,?_⟩
    exact iteF ⟨_,_,rfl,sm.trans s2⟩
   ·rintro σ H' ⟨o3,o4,rfl,sm⟩
    exact k1 H' (o1.trans (zhj sm)) ⟨dx,t,r,sm _ _ u1⟩
def zdQ (C:Addr) : Sp:=fun vs H Q _=>∃ (x l:Addr) (h:Int),vs = [.ref x,.int 0] ∧ zcA C H x l h ∧ SumsAt H l ∧ Q (.int h) H
theorem zhG:FnScope ["self","place","kind"] ["self","place"] (zad zcO):=⟨rfl,rfl,rfl,by decide +kernel,rfl,by decide +kernel,by decide +kernel⟩
theorem zk4 {f C:Addr} {fd:FuncData} (F:Fun K "cell_at" "Tally.cell_at" zcO f fd) (T:Tly K C) : FnOk P w K mg base CX0 1 f fd ["self","place"] (zdQ C):=by
 refine F.okJ zhG (fun vs H Q E h=>?_) (fun cdv A outer s H vs Q E hr h=>?_)
 ·obtain ⟨_,_,_,rfl,_⟩:=h
  rfl
 ·obtain ⟨x,l,h,rfl,⟨dx,t,r,hx⟩,⟨u,hl,hu⟩,k⟩:=h
  have nd:=zhG.nd
  refine ⟨_,(zab (zar 2 nd (e_ix zbg (e_ix zaY (zhh (e_v 0)) (e_v 1)) e_i))
   (zab (s_if (zaW o_eq (e_v 2) e_s) (zag (zau (zhh (e_v 0)))) zaS)
   (zab zgj (zab zgj (zag zgj))))),?_⟩
  refine ⟨_,rfl,x,C,dx,_,_,rfl,hx,T.cl,T.n1,zdT,_,rfl,l,_,_,_,rfl,rfl,SqL.of hl,(show atI _ ((0:Nat) : Int) = _ from za1 rfl),u,_,_,_,rfl,rfl,SqT.of hu,(show atI _ ((0:Nat) : Int) = _ from za1 rfl),?_⟩
  refine ⟨_,rfl,rfl,_,rfl,?_⟩
  refine iteT ⟨_,rfl,x,C,dx,_,_,rfl,hx,T.cl,T.n2,zcv,k⟩
def zdR (C:Addr) : Sp:=fun vs H Q _=>∃ (x l:Addr) (h:Int),vs = [.ref x] ∧ zcA C H x l h ∧ SumsAt H l ∧ ∀ t H',Same H H' → H t = none → H' t = some (.tup [.int h]) → Q (.ref t) H'
theorem zkF:FnScope ["self"] ["self"] (zad zfJ):=⟨rfl,rfl,rfl,by decide +kernel,rfl,by decide +kernel,by decide +kernel⟩
theorem zkx {f C:Addr} {fd:FuncData} (F:Fun K "told" "Tally.told" zfJ f fd) (T:Tly K C) (B:Blts mg) (M:MethP P w K mg base 1 C "cell_at" ["self","place"] (zdQ C)) : FnOk P w K mg base CX0 2 f fd ["self"] (zdR C):=by
 refine F.okJ zkF (fun vs H Q E h=>?_) (fun cdv A outer s H vs Q E hr h=>?_)
 ·obtain ⟨_,_,_,rfl,_⟩:=h
  rfl
 ·obtain ⟨x,l,h,rfl,⟨dx,t,r,hx⟩,⟨u,hl,hu⟩,k⟩:=h
  have nd2:(["place","self"] : List Str).Nodup:=by decide +kernel
  refine ⟨_,(zag (zau (e_ct zd9 B.tuple PyProof.Rows.boot_tuple (a1c (zaZ (Nc:=["place","self"]) (js:=[none,some 0]) (g:=(zaw 0)) (tt:=tYes) (te:=(zhd C "cell_at" (zdQ C) [] E0 (tVar 1) (zal (tVar 0) tNil)))
   (zaB rfl rfl rfl rfl (fun x c h=>by (obtain ⟨rfl,rfl⟩ : x = _ ∧ c = _:=(by simpa using h)); rfl) rfl rfl rfl) (zcY B.range (a1 (e_cb zcM B.len PySem.boot_len (a1 (zhh (e_v 0))))))
   (fun pins C s3 H3 fp=>⟨(g_n 0 nd2),.inl ⟨rfl,rfl⟩,(ziH M hr (e_v 1) (a1 (e_v 0)))⟩)))))),?_⟩
  refine ⟨_,rfl,x,C,dx,_,_,rfl,hx,T.cl,T.n1,zdT,l,_,rfl,.inl (SqL.of hl),_,rfl,by show (-2 ^ 62:Int) ≤ 1; decide,by show (1:Int) < 2 ^ 62; decide,fun D hD=>?_⟩
  refine zbM (n:=1) (fun i σ H'=>∃ (o:Option V),σ = [o,some (.ref x)] ∧ Same H H' ∧ H' D = some (.lst ((List.replicate i (V.int h))))) ⟨none,rfl,(Same.refl H).upd hD,zaa⟩ ?_ ?_
  ·rintro i σ H' hi ⟨o,rfl,sm,h4⟩
   have hi0:i = 0:=by omega
   subst hi0
   exact ⟨_,rfl,x,dx,_,rfl,sm _ _ hx,zjz (by decide +kernel) (by decide +kernel) (by decide +kernel) (by decide +kernel),_,rfl,x,l,h,rfl,⟨dx,t,r,sm _ _ hx⟩,⟨u,sm _ _ hl,sm _ _ hu⟩,_,h4,by show 0 < sizeLine; decide,_,rfl,sm.upd hD,zaa⟩
  ·rintro σ H' ⟨o,rfl,sm,h4⟩
   exact ⟨D,_,rfl,.inl ⟨SqL.of h4,fun t ht=>k t _ (sm.trans ((Same.refl H').upd ht)) (sm.free ht) zaa⟩⟩
end
abbrev Ev:=Option Int × Addr × List Bool
def EvAt (H:Hp) (v:V) (b:Bool) : Prop:=∃ t p,v = .ref t ∧ H t = some (.tup [p,.bl b])
def sg (b:Bool) : Int:=if b then 1 else -1
def bal (l:List Bool) : Int:=(l.map sg).sum
def zb1 (ev:List Ev) (k:Option Int) : Int:=(ev.map fun e=>if e.1 = k then bal e.2.2 else 0).sum
theorem zhx (l:List Bool) (b:Bool) : bal (l ++ [b]) = bal l + sg b:=by unfold bal; simp
theorem zcX (a b:List Ev) (k:Option Int) : zb1 (a ++ b) k = zb1 a k + zb1 b k:=by unfold zb1; simp
theorem zcg (e:Ev) (l:List Ev) (k:Option Int) : zb1 (e :: l) k = (if e.1 = k then bal e.2.2 else 0) + zb1 l k:=by unfold zb1; simp
structure TnE (P:Program) (w:World) (H0 H:Hp) (d:Addr) (o:Obj) (ev:List Ev) : Prop where
 at':H d = some (objO d o)
 of:OfN P w d o (ev.map fun e=>(e.1,V.ref e.2.1))
 ls:∀ e ∈ ev,∃ us,H e.2.1 = some (.lst us) ∧ Paired (EvAt H) us e.2.2
 nw:∀ e ∈ ev,H0 e.2.1 = none
 nd:(ev.map (·.2.1)).Nodup
 sm:Same H0 H
 fr:H0 d = none
section
variable {P:Program} {w:World} {H0 H H':Hp} {d:Addr} {o:Obj} {ev l1 l2:List Ev}
theorem TnE.same (h:TnE P w H0 H d o ev) (s:Same H H') : TnE P w H0 H' d o ev :=
 ⟨s _ _ h.at',h.of,fun e he=>let ⟨us,a,b⟩:=h.ls e he; ⟨us,s _ _ a,Paired.mapP b fun _ _ ⟨t,p,x,y⟩=>⟨t,p,x,s _ _ y⟩⟩,h.nw,h.nd,h.sm.trans s,h.fr⟩
theorem TnE.app {e : Ev} {us : List V} {t : Addr} {p : V} {b : Bool} (h : TnE P w H0 H d o (l1 ++ e :: l2)) (hus : H e.2.1 = some (.lst us)) (ht : H t = some (.tup [p, .bl b])) :
    TnE P w H0 (upd H e.2.1 (.lst (us ++ [.ref t]))) d o (l1 ++ (e.1,e.2.1,e.2.2 ++ [b]) :: l2):=by
  have nt:=zaJ hus
  have he:e ∈ l1 ++ e :: l2:=List.mem_append_right _ List.mem_cons_self
  have nd:=h.nd
  rw [List.map_append,List.map_cons] at nd
  obtain ⟨n1,n2,n3⟩:=List.nodup_append.mp nd
  obtain ⟨n4,n5⟩:=List.nodup_cons.mp n2
  have nde:d ≠ e.2.1:=zbt h.at' hus (fun z=>nomatch z)
  have keepE:∀ {vs:List V} {bs:List Bool},Paired (EvAt H) vs bs → Paired (EvAt (upd H e.2.1 (.lst (us ++ [.ref t])))) vs bs:=fun {vs bs} z=>Paired.mapP z fun _ _ ⟨t,p,x,y⟩=>⟨t,p,x,zao nt _ _ y⟩
  refine ⟨by rw [zai nde]; exact h.at',?_,fun e' he'=>?_,fun e' he'=>?_,?_,?_,h.fr⟩
  · have:=h.of
    rw [List.map_append,List.map_cons] at this ⊢
    exact this
  · obtain ⟨us0,a0,b0⟩:=h.ls e he
    rw [hus] at a0
    cases a0
    have old:∀ e' ∈ l1 ++ l2,e'.2.1 ≠ e.2.1:=fun e' he' z=>by
      rcases List.mem_append.mp he' with q | q
      · exact n3 _ (List.mem_map_of_mem q) _ List.mem_cons_self z
      · exact n4 (z ▸ List.mem_map_of_mem q)
    have other:e' ∈ l1 ++ l2 → ∃ us',upd H e.2.1 (.lst (us ++ [.ref t])) e'.2.1 = some (.lst us') ∧ Paired (EvAt (upd H e.2.1 (.lst (us ++ [.ref t])))) us' e'.2.2:=fun q=>by
      obtain ⟨us1, a1, b1⟩ := h.ls e' (by rcases List.mem_append.mp q with z | z; · exact List.mem_append_left _ z
                                          · exact List.mem_append_right _ (List.mem_cons_of_mem _ z))
      exact ⟨us1,by rw [zai (old e' q)]; exact a1,keepE b1⟩
    rcases List.mem_append.mp he' with q | q
    · exact other (List.mem_append_left _ q)
    · rcases List.mem_cons.mp q with q | q
      · subst q
        exact ⟨_,zaa,zah (R:=EvAt (upd H e.2.1 (.lst (us ++ [.ref t])))) ⟨t,p,rfl,zao nt _ _ ht⟩ (keepE b0)⟩
      · exact other (List.mem_append_right _ q)
  · rcases List.mem_append.mp he' with q | q
    · exact h.nw e' (List.mem_append_left _ q)
    · rcases List.mem_cons.mp q with q | q
      · subst q; exact h.nw e he
      · exact h.nw e' (List.mem_append_right _ (List.mem_cons_of_mem _ q))
  · have:=h.nd
    rw [List.map_append,List.map_cons] at this ⊢
    exact this
  · exact h.sm.upd (h.nw e he)
theorem TnE.new {z:Addr} {k:Option Int} {o':Obj} (h:TnE P w H0 H d o ev) (hz:H z = some (.lst [])) (hz0:H0 z = none) (nz:z ∉ ev.map (·.2.1)) (of':OfN P w d o' ((ev.map fun e=>(e.1,V.ref e.2.1)) ++ [(k,.ref z)])) :
  TnE P w H0 (upd H d (objO d o')) d o' (ev ++ [(k,z,[])]):=by
 have nt:∀ xs,H d ≠ some (.tup xs):=fun xs q=>by rw [h.at'] at q; cases q
 have ndl:∀ {q:Addr} {us:List V},H q = some (.lst us) → q ≠ d:=fun {q us} hq=>zbt hq h.at' (fun z=>nomatch z)
 refine ⟨zaa,by rw [List.map_append]; exact of',fun e he=>?_,fun e he=>?_,?_,h.sm.upd h.fr,h.fr⟩
 ·rcases List.mem_append.mp he with q | q
  ·obtain ⟨us,a,b⟩:=h.ls e q
   exact ⟨us,by rw [zai (ndl a)]; exact a,Paired.mapP b fun _ _ ⟨t,p,x,y⟩=>⟨t,p,x,zao nt _ _ y⟩⟩
  ·rw [List.mem_singleton.mp q]
   exact ⟨[],by rw [zai (ndl hz)]; exact hz,.nil⟩
 ·rcases List.mem_append.mp he with q | q
  ·exact h.nw e q
  ·rw [List.mem_singleton.mp q]; exact hz0
 ·rw [List.map_append,List.nodup_append]
  exact ⟨h.nd,by simp,fun a ha b hb=>by
   have:b = z:=by simpa using hb
   subst this; exact fun q=>nz (q ▸ ha)⟩
theorem zhq {k:Option Int} : (∃ e ∈ ev,e.1 = k ∧ valV (ev.map fun e=>(e.1,V.ref e.2.1)) k = some (.ref e.2.1)) ∨ (k ∉ ev.map (·.1) ∧ valV (ev.map fun e=>(e.1,V.ref e.2.1)) k = none):=by
 induction ev with
 | nil=>exact .inr ⟨by simp,rfl⟩
 | cons e ev ih =>
  by_cases c:e.1 = k
  ·exact .inl ⟨e,List.mem_cons_self,c,by rw [List.map_cons,zb7 c]⟩
  ·rcases ih with ⟨e',a,b,q⟩ | ⟨a,q⟩
   ·exact .inl ⟨e',List.mem_cons_of_mem _ a,b,by rw [List.map_cons,zbB c]; exact q⟩
   ·refine .inr ⟨fun z=>?_,by rw [List.map_cons,zbB c]; exact q⟩
    rcases List.mem_cons.mp z with z | z
    ·exact c z.symm
    ·exact a z
def EvB (n:Nat) (ev:List Ev) : Prop:=ev.length ≤ n ∧ ∀ e ∈ ev,e.2.2.length ≤ n
theorem ziP {K:PySem.W.Frag} {σ:St} {k:Option Int} {b:Bool} {p:V} {i n:Nat} {D:Ends} (h1:σ[1]? = some (some (.ref d))) (hi:σ[i]? = some (some (vO k))) (h2:σ[2]? = some (some p)) (T:TnE P w H0 H d o ev) (B:EvB n ev) (n9:n < 900)
  (kont:∀ H' o' ev',TnE P w H0 H' d o' ev' → EvB (n + 1) ev' → (∀ k',zb1 ev' k' = zb1 ev k' + if k = k' then sg b else 0) → (∀ k',k' ∈ ev'.map (·.1) ↔ k' ∈ ev.map (·.1) ∨ k' = k) → D.nx σ H') :
  zeX (tBM K "list" zbG (zmo P w (tVar 1) (tVar i) (tLst tNil)) (zal (tTup (zal (tVar 2) (zal (tC (.bl b)) tNil))) tNil)) D σ H:=by
 refine ⟨_,h1,d,o,_,rfl,T.at',T.of,_,hi,Nat.zero_le _,fun z hz=>?_⟩
 have s1:Same H (upd H z (.lst [])):=(Same.refl H).upd hz
 have u1:upd H z (.lst []) z = some (.lst []):=zaa
 generalize upd H z (.lst []) = H1 at s1 u1 ⊢
 have T1:=T.same s1
 have fin:∀ (H2:Hp) (o2:Obj) (m1:List Ev) (e:Ev) (m2:List Ev),TnE P w H0 H2 d o2 (m1 ++ e :: m2) → EvB (n + 1) (m1 ++ e :: m2) → e.2.2.length ≤ n → e.1 = k → (∀ k',zb1 (m1 ++ e :: m2) k' = zb1 ev k') → (∀ k',k' ∈ (m1 ++ e :: m2).map (·.1) ↔ k' ∈ ev.map (·.1) ∨ k' = k) →
   tyV K "list" (.ref e.2.1) H2 ∧ (zal (tTup (zal (tVar 2) (zal (tC (.bl b)) tNil))) tNil) σ H2 fun xs H3=>zbG (.ref e.2.1) xs H3 fun _ H4=>D.nx σ H4:=by
  intro H2 o2 m1 e m2 T2 B2 le ek hb hk
  obtain ⟨us,hu,pu⟩:=T2.ls e (List.mem_append_right _ List.mem_cons_self)
  refine ⟨.inl ⟨rfl,_,SqL.of hu⟩,_,h2,by show 2 ≤ sizeLine; decide,fun t ht=>?_⟩
  have s3:Same H2 (upd H2 t (.tup [p,.bl b])):=(Same.refl H2).upd ht
  have u3:upd H2 t (.tup [p,.bl b]) t = some (.tup [p,.bl b]):=zaa
  generalize upd H2 t (.tup [p,.bl b]) = H3 at s3 u3 ⊢
  have lu:us.length = e.2.2.length:=Paired.length pu
  refine ⟨e.2.1,us,_,rfl,rfl,s3 _ _ hu,zae (by omega),kont _ o2 _ ((T2.same s3).app (s3 _ _ hu) u3) ⟨?_,fun e' he'=>?_⟩ (fun k'=>?_) fun k'=>?_⟩
  ·have:=B2.1
   rw [List.length_append,List.length_cons] at this ⊢
   exact this
  ·rcases List.mem_append.mp he' with q | q
   ·exact B2.2 e' (List.mem_append_left _ q)
   ·rcases List.mem_cons.mp q with q | q
    ·subst q; show (e.2.2 ++ [b]).length ≤ n + 1; rw [List.length_append,List.length_singleton]; omega
    ·exact B2.2 e' (List.mem_append_right _ (List.mem_cons_of_mem _ q))
  ·rw [← hb k',zcX,zcX,zcg,zcg]
   show zb1 m1 k' + ((if e.1 = k' then bal (e.2.2 ++ [b]) else 0) + zb1 m2 k') = _
   rw [zhx,ek]
   by_cases c:k = k'
   ·rw [if_pos c,if_pos c,if_pos c]; omega
   ·rw [if_neg c,if_neg c,if_neg c]; omega
  ·rw [← hk k',List.map_append,List.map_append,List.map_cons,List.map_cons]
 refine ⟨o,_,k,T1.at',T1.of,rfl,zae (by rw [List.length_map]; have:=B.1; omega),fun v hv=>?_,fun hv o' of'=>?_⟩
 ·rcases zhq (ev:=ev) (k:=k) with ⟨e,he,ek,q⟩ | ⟨_,q⟩
  ·rw [hv] at q
   cases q
   obtain ⟨m1,m2,rfl⟩:=List.append_of_mem he
   refine fin H1 o m1 e m2 T1 ⟨by have:=B.1; omega,fun e' h'=>by have:=B.2 e' h'; omega⟩ (B.2 e he) ek (fun _=>rfl) fun k'=>⟨.inl,fun q=>q.elim id fun z=>?_⟩
   rw [z,← ek]; exact List.mem_map_of_mem he
  ·rw [hv] at q; cases q
 ·rcases zhq (ev:=ev) (k:=k) with ⟨e,he,ek,q⟩ | ⟨nk,q⟩
  ·rw [hv] at q; cases q
  ·have hz0:H0 z = none:=T.sm.free hz
   have nz:z ∉ ev.map (·.2.1):=fun m=>by
    obtain ⟨e,he,rfl⟩:=List.mem_map.mp m
    obtain ⟨us,hu,_⟩:=T.ls e he
    rw [hz] at hu; cases hu
   refine fin _ o' ev (k,z,[]) [] (T1.new u1 hz0 nz of') ⟨by rw [List.length_append]; have:=B.1; simp; omega,fun e' h'=>?_⟩ (Nat.zero_le _) rfl (fun k'=>?_) fun k'=>?_
   ·rcases List.mem_append.mp h' with q | q
    ·have:=B.2 e' q; omega
    ·rw [List.mem_singleton.mp q]; exact Nat.zero_le _
   ·rw [zcX,zcg]
    show zb1 ev k' + ((if k = k' then 0 else 0) + 0) = _
    split <;> omega
   ·rw [List.map_append,List.mem_append]; simp
end
def netS (ss:List Stt) (k:Option Int) : Int:=(ss.map fun s=>(if s.1 = k then 1 else 0) - (if s.2 = k ∧ k ≠ none then 1 else 0)).sum
theorem zf3 (ss:List Stt) (s:Stt) (k:Option Int) : netS (ss ++ [s]) k = netS ss k + ((if s.1 = k then 1 else 0) - (if s.2 = k ∧ k ≠ none then 1 else 0)):=by unfold netS; simp
def keyS (ss:List Stt) (k:Option Int) : Prop:=∃ s ∈ ss,s.1 = k ∨ (s.2 = k ∧ k ≠ none)
def Tns (P:Program) (w:World) (H0 H:Hp) (d:Addr) (ss:List Stt) : Prop:=∃ o ev,TnE P w H0 H d o ev ∧ EvB (2 * ss.length) ev ∧ (∀ k,zb1 ev k = netS ss k) ∧ ∀ k,k ∈ ev.map (·.1) ↔ keyS ss k
def allS (es:List Ent) : List Stt:=es.flatMap (·.2)
section
variable {P:Program} {w:World} {K:PySem.W.Frag} {mg:Str → Option Value} {base:Heap}
def zcU (P:Program) (w:World) : Sp:=fun vs H Q _=>∃ (a:Addr) (es:List Ent),vs = [.ref a] ∧ SheetAt H a es ∧ (allS es).length ≤ 400 ∧ ∀ (d:Addr) (H':Hp),Tns P w H H' d (allS es) → Q (.ref d) H'
theorem zes:FnScope ["entries","turns","row","span","start","end"] ["entries"] (zad zcF):=⟨rfl,rfl,rfl,by decide +kernel,rfl,by decide +kernel,by decide +kernel⟩
theorem zgX {f : Addr} {fd : FuncData} (F : Fun K "turns_of" "turns_of" zcF f fd) : FnOk P w K mg base CX0 1 f fd ["entries"] (zcU P w) := by
 refine F.okJ zes (fun vs H Q E h=>?_) (fun cdv A outer s H vs Q E hr h=>?_)
 ·obtain ⟨_,_,rfl,_⟩:=h
  rfl
 ·obtain ⟨a,es,rfl,⟨xs,ha,px⟩,l4,k⟩:=h
  have nd:=zes.nd
  refine ⟨_,(zab (zhL 1 nd zmR)
   (zab (zbd (zat (e_v 0)) (zbv (zaf (g_n 2 nd) (zaf (g_n 3 nd) zaR)))
    (zag (zbd (zat (e_v 3)) (zbv (zaf (g_n 4 nd) (zaf (g_n 5 nd) zaR)))
     (zab (zdB (zly (e_v 1) (e_v 4) (zbl a0)) (zbs (ac (e_v 2) (a1 e_b))))
     (zag (s_if (zc8 (e_v 5)) (zag (zdB (zly (e_v 1) (e_v 5) (zbl a0)) (zbs (ac (e_v 2) (a1 e_b))))) zaS))))))
   (zag (zau (e_v 1))))),?_⟩
  have lx:xs.length = es.length:=Paired.length px
  refine fun d o hd of=>?_
  have T0:TnE P w H (upd H d (objO d o)) d o []:=⟨zaa,of,(fun e h=>nomatch h),(fun e h=>nomatch h),.nil,(Same.refl H).upd hd,hd⟩
  generalize upd H d (objO d o) = H1 at T0 ⊢
  refine ⟨_,rfl,a,rfl,⟨xs,SqL.of (T0.sm _ _ ha)⟩,zaA (K:=K) (a:=a) (xs:=xs) (fun i σ H'=>∃ (o2 o3 o4 o5:Option V),σ = [some (.ref a),some (.ref d),o2,o3,o4,o5] ∧ Tns P w H H' d (allS (es.take i)))
   ⟨none,none,none,none,rfl,o,[],T0,⟨Nat.zero_le _,(fun e h=>nomatch h)⟩,fun _=>rfl,fun k=>⟨(fun z=>nomatch z),fun ⟨s,hs,_⟩=>nomatch hs⟩⟩ (fun i σ H' _ ⟨_,_,_,_,_,_,_,T,_⟩=>SqL.of (T.sm _ _ ha)) ?_ ?_⟩
  ·rintro i x σ H2 hx ⟨o2,o3,o4,o5,rfl,o',ev,T,B,hb,hk⟩
   obtain ⟨e,he,t,p,q,rfl,ht,hp,⟨zs,hq,pz⟩⟩:=zaj px hx
   refine ⟨t,_,rfl,SqT.of (T.sm _ _ ht),rfl,_,_,rfl,_,_,rfl,rfl,?_⟩
   have ea:allS (es.take (i + 1)) = allS (es.take i) ++ e.2:=by rw [take_snoc he]; unfold allS; rw [List.flatMap_append]; simp
   have l4':(allS (es.take i)).length + e.2.length ≤ 400:=by
    have:(allS es).length = (allS (es.take (i + 1))).length + (allS (es.drop (i + 1))).length:=by
     conv=>lhs; rw [← List.take_append_drop (i + 1) es]
     unfold allS; rw [List.flatMap_append,List.length_append]
    rw [ea,List.length_append] at this
    omega
   have lz:zs.length = e.2.length:=Paired.length pz
   refine ⟨_,rfl,q,rfl,⟨zs,SqL.of (T.sm _ _ hq)⟩,zaA (K:=K) (a:=q) (xs:=zs) (fun j σ H'=>∃ (o4 o5:Option V),σ = [some (.ref a),some (.ref d),some (.ref p),some (.ref q),o4,o5] ∧ Tns P w H H' d (allS (es.take i) ++ e.2.take j))
    ⟨o4,o5,rfl,o',ev,T,by rw [List.take_zero,List.append_nil]; exact B,by rw [List.take_zero,List.append_nil]; exact hb,by rw [List.take_zero,List.append_nil]; exact hk⟩ (fun i σ H' _ ⟨_,_,_,_,_,T,_⟩=>SqL.of (T.sm _ _ hq)) ?_ ?_⟩
   ·rintro j y σ H3 hy ⟨o4,o5,rfl,o3',ev3,T3,B3,hb3,hk3⟩
    obtain ⟨st,hst,u,rfl,hu⟩:=zaj pz hy
    have hj:=(List.getElem?_eq_some_iff.mp hst).1
    have lj:(allS (es.take i) ++ e.2.take j).length < 400:=by rw [List.length_append,List.length_take]; omega
    refine ⟨u,_,rfl,SqT.of (T3.sm _ _ hu),rfl,_,_,rfl,_,_,rfl,rfl,?_⟩
    refine ziP (k:=st.1) (i:=4) rfl rfl rfl T3 B3 (by omega) fun H4 o4' ev4 T4 B4 hb4 hk4=>?_
    have eT:allS (es.take i) ++ e.2.take (j + 1) = (allS (es.take i) ++ e.2.take j) ++ [st]:=by rw [take_snoc hst,List.append_assoc]
    have lT:2 * (allS (es.take i) ++ e.2.take (j + 1)).length = 2 * (allS (es.take i) ++ e.2.take j).length + 1 + 1:=by rw [eT,List.length_append,List.length_singleton]; omega
    refine ⟨_,rfl,_,rfl,?_⟩
    rcases st with ⟨s1,s2⟩
    cases s2 with
    | none =>
     refine iteF ⟨_,_,rfl,o4',ev4,T4,⟨by have:=B4.1; omega,fun e' h'=>by have:=B4.2 e' h'; omega⟩,fun k'=>?_,fun k'=>?_⟩
     ·rw [eT,zf3,hb4,hb3]
      show _ + (if s1 = k' then sg true else 0) = _ + ((if s1 = k' then 1 else 0) - (if none = k' ∧ k' ≠ none then 1 else 0))
      rw [if_neg (fun (z:none = k' ∧ k' ≠ none)=>z.2 z.1.symm)]
      have:sg true = 1:=rfl
      rw [this]; omega
     ·rw [eT,hk4,hk3]
      unfold keyS
      constructor
      ·rintro (⟨s,hs,z⟩ | z)
       ·exact ⟨s,List.mem_append_left _ hs,z⟩
       ·exact ⟨_,List.mem_append_right _ List.mem_cons_self,.inl z.symm⟩
      ·rintro ⟨s,hs,z⟩
       rcases List.mem_append.mp hs with hs | hs
       ·exact .inl ⟨s,hs,z⟩
       ·rw [List.mem_singleton.mp hs] at z
        exact .inr (z.elim (fun z=>z.symm) fun z=>absurd z.1.symm z.2)
    | some s2 =>
     refine iteT (ziP (k:=some s2) (i:=5) rfl rfl rfl T4 B4 (by omega) fun H5 o5' ev5 T5 B5 hb5 hk5=>?_)
     refine ⟨_,_,rfl,o5',ev5,T5,by rw [lT]; exact B5,fun k'=>?_,fun k'=>?_⟩
     ·rw [eT,zf3,hb5,hb4,hb3]
      show _ + (if s1 = k' then sg true else 0) + (if some s2 = k' then sg false else 0) = _ + ((if s1 = k' then 1 else 0) - (if some s2 = k' ∧ k' ≠ none then 1 else 0))
      have e1:sg true = 1:=rfl
      have e2:sg false = -1:=rfl
      rw [e1,e2]
      have e3:(if some s2 = k' ∧ k' ≠ none then (1:Int) else 0) = if some s2 = k' then 1 else 0:=by
       by_cases c:some s2 = k'
       ·rw [if_pos c,if_pos (⟨c,by rw [← c]; exact fun z=>nomatch z⟩ : some s2 = k' ∧ k' ≠ none)]
       ·rw [if_neg c,if_neg (fun (z:some s2 = k' ∧ k' ≠ none)=>c z.1)]
      rw [e3]
      split <;> split <;> omega
     ·rw [eT,hk5,hk4,hk3]
      unfold keyS
      constructor
      ·rintro ((⟨s,hs,z⟩ | z) | z)
       ·exact ⟨s,List.mem_append_left _ hs,z⟩
       ·exact ⟨_,List.mem_append_right _ List.mem_cons_self,.inl z.symm⟩
       ·exact ⟨_,List.mem_append_right _ List.mem_cons_self,.inr ⟨z.symm,by rw [z]; exact fun z=>nomatch z⟩⟩
      ·rintro ⟨s,hs,z⟩
       rcases List.mem_append.mp hs with hs | hs
       ·exact .inl (.inl ⟨s,hs,z⟩)
       ·rw [List.mem_singleton.mp hs] at z
        exact z.elim (fun z=>.inl (.inr z.symm)) fun z=>.inr z.1.symm
   ·rintro σ H3 ⟨o4,o5,rfl,T3⟩
    rw [lz,List.take_length,← ea] at T3
    exact ⟨_,_,_,_,rfl,T3⟩
  ·rintro σ H2 ⟨o2,o3,o4,o5,rfl,T⟩
   rw [lx,List.take_length] at T
   exact ⟨_,rfl,k d H2 T⟩
end
def oneS (s:Stt) (k:Option Int) : Int:=(if s.1 = k then 1 else 0) - (if s.2 = k ∧ k ≠ none then 1 else 0)
theorem zgK (s:Stt) (ss:List Stt) (k:Option Int) : netS (s :: ss) k = oneS s k + netS ss k:=by unfold netS oneS; simp
def cntO (l:List Int) (o:Option Int) : Int:=(l.map fun b=>if o = some b then (1:Int) else 0).sum
theorem zew (l:List Int) : cntO l none = 0:=by
 unfold cntO
 induction l with
 | nil=>rfl
 | cons a l ih=>rw [List.map_cons,List.sum_cons,ih]; rfl
theorem zga {l:List Int} (nd:l.Nodup) (a:Int) : cntO l (some a) = if a ∈ l then 1 else 0:=by
 induction l with
 | nil=>rfl
 | cons b l ih =>
  obtain ⟨n1,n2⟩:=List.nodup_cons.mp nd
  have e:cntO (b :: l) (some a) = (if some a = some b then (1:Int) else 0) + cntO l (some a):=by unfold cntO; rw [List.map_cons,List.sum_cons]
  rw [e,ih n2]
  by_cases c:a = b
  ·subst c; simp [n1]
  ·simp [c]
theorem zl3 (s:Stt) (l:List Int) : (l.map fun b=>oneS s (some b)).sum = cntO l s.1 - cntO l s.2:=by
 induction l with
 | nil=>rfl
 | cons b l ih =>
  have e1:cntO (b :: l) s.1 = (if s.1 = some b then (1:Int) else 0) + cntO l s.1:=by unfold cntO; rw [List.map_cons,List.sum_cons]
  have e2:cntO (b :: l) s.2 = (if s.2 = some b then (1:Int) else 0) + cntO l s.2:=by unfold cntO; rw [List.map_cons,List.sum_cons]
  rw [List.map_cons,List.sum_cons,ih,e1,e2]
  have e3:oneS s (some b) = (if s.1 = some b then (1:Int) else 0) - (if s.2 = some b then (1:Int) else 0):=by
   unfold oneS; simp
  rw [e3]; omega
theorem ze4 {ms:List Int} (inc:Inc ms) {m a:Int} (ha:a ∈ ms) : a ∈ ms.take (zav ms m) ↔ a ≤ m:=by
 obtain ⟨i,hi⟩:=List.getElem?_of_mem ha
 rw [zbm inc i a hi]
 constructor
 ·intro h
  obtain ⟨j,hj⟩:=List.getElem?_of_mem h
  rw [List.getElem?_take] at hj
  by_cases c:j < zav ms m
  ·rw [if_pos c] at hj
   have:j = i:=by
    have l1:=(List.getElem?_eq_some_iff.mp hi).1
    have l2:=(List.getElem?_eq_some_iff.mp hj).1
    have e1:=(List.getElem?_eq_some_iff.mp hi).2
    have e2:=(List.getElem?_eq_some_iff.mp hj).2
    rcases Nat.lt_trichotomy i j with z | z | z
    ·have:=List.pairwise_iff_getElem.mp inc i j l1 l2 z; omega
    ·exact z.symm
    ·have:=List.pairwise_iff_getElem.mp inc j i l2 l1 z; omega
   omega
  ·rw [if_neg c] at hj; cases hj
 ·intro h
  exact List.mem_of_getElem? (i:=i) (by rw [List.getElem?_take,if_pos h]; exact hi)
theorem zf2 {ms:List Int} (inc:Inc ms) : ms.Nodup:=List.Pairwise.imp (fun h=>Int.ne_of_lt h) inc
theorem zjq {ms:List Int} (inc:Inc ms) {s:Stt} (ok:okS s) (bd:∀ x,s.1 = some x ∨ s.2 = some x → x ∈ ms) (m:Int) : oneS s none + ((ms.take (zav ms m)).map fun b=>oneS s (some b)).sum = if inS m s = true then 1 else 0:=by
 have nd:(ms.take (zav ms m)).Nodup:=(zf2 inc).sublist (List.take_sublist _ _)
 have e0:oneS s none = if s.1 = none then 1 else 0:=by unfold oneS; simp
 rw [zl3,e0]
 rcases s with ⟨s1,s2⟩
 have c2:∀ b,s2 = some b → cntO (ms.take (zav ms m)) (some b) = if b ≤ m then 1 else 0:=fun b e=>by
  rw [zga nd]
  have:=ze4 inc (m:=m) (bd b (.inr e))
  by_cases c:b ≤ m
  ·rw [if_pos c,if_pos (this.mpr c)]
  ·rw [if_neg c,if_neg (fun z=>c (this.mp z))]
 have c1:∀ a,s1 = some a → cntO (ms.take (zav ms m)) (some a) = if a ≤ m then 1 else 0:=fun a e=>by
  rw [zga nd]
  have:=ze4 inc (m:=m) (bd a (.inl e))
  by_cases c:a ≤ m
  ·rw [if_pos c,if_pos (this.mpr c)]
  ·rw [if_neg c,if_neg (fun z=>c (this.mp z))]
 have hin:inS m (s1,s2) = true ↔ (∀ a,s1 = some a → a ≤ m) ∧ (∀ b,s2 = some b → m < b):=zaz
 cases s1 with
 | none =>
  cases s2 with
  | none =>
   rw [if_pos (hin.mpr ⟨(fun _ h=>nomatch h),(fun _ h=>nomatch h)⟩)]
   show (if (none:Option Int) = none then (1:Int) else 0) + (cntO _ none - cntO _ none) = 1
   rw [zew]; rfl
  | some b =>
   show (if (none:Option Int) = none then (1:Int) else 0) + (cntO _ none - cntO _ (some b)) = _
   rw [zew,c2 b rfl,if_pos rfl]
   by_cases c:b ≤ m
   ·rw [if_pos c,if_neg (fun z=>by have:=(hin.mp z).2 b rfl; omega)]; rfl
   ·rw [if_neg c,if_pos (hin.mpr ⟨(fun _ h=>nomatch h),fun x hx=>by cases hx; omega⟩)]; rfl
 | some a =>
  cases s2 with
  | none =>
   show (if (some a:Option Int) = none then (1:Int) else 0) + (cntO _ (some a) - cntO _ none) = _
   rw [zew,c1 a rfl,if_neg (fun z=>nomatch z)]
   by_cases c:a ≤ m
   ·rw [if_pos c,if_pos (hin.mpr ⟨fun x hx=>by cases hx; exact c,(fun _ h=>nomatch h)⟩)]; rfl
   ·rw [if_neg c,if_neg (fun z=>c ((hin.mp z).1 a rfl))]; rfl
  | some b =>
   have ab:=ok a b rfl rfl
   show (if (some a:Option Int) = none then (1:Int) else 0) + (cntO _ (some a) - cntO _ (some b)) = _
   rw [c1 a rfl,c2 b rfl,if_neg (fun z=>nomatch z)]
   by_cases c:a ≤ m
   ·by_cases d:b ≤ m
    ·rw [if_pos c,if_pos d,if_neg (fun z=>by have:=(hin.mp z).2 b rfl; omega)]; rfl
    ·rw [if_pos c,if_neg d,if_pos (hin.mpr ⟨fun x hx=>by cases hx; exact c,fun x hx=>by cases hx; omega⟩)]; rfl
   ·rw [if_neg c,if_neg (by omega),if_neg (fun z=>c ((hin.mp z).1 a rfl))]; rfl
theorem sum_add {α:Type} (f g:α → Int) (l:List α) : (l.map fun b=>f b + g b).sum = (l.map f).sum + (l.map g).sum:=by
 induction l with
 | nil=>rfl
 | cons a l ih=>rw [List.map_cons,List.map_cons,List.map_cons,List.sum_cons,List.sum_cons,List.sum_cons,ih]; omega
def hgt (f:Option Int → Int) (ms:List Int) (j:Nat) : Int:=f none + ((ms.take j).map fun b=>f (some b)).sum
theorem zjh {ms:List Int} (inc:Inc ms) {ss:List Stt} (ok:∀ s ∈ ss,okS s) (bd:∀ s ∈ ss,∀ x,s.1 = some x ∨ s.2 = some x → x ∈ ms) (m:Int) : hgt (netS ss) ms (zav ms m) = ((ss.filter fun s=>inS m s).length:Int):=by
 unfold hgt
 induction ss with
 | nil =>
  have:((ms.take (zav ms m)).map fun b=>netS [] (some b)).sum = 0:=by
   generalize ms.take (zav ms m) = l
   induction l with
   | nil=>rfl
   | cons a l ih=>rw [List.map_cons,List.sum_cons,ih]; rfl
  rw [this]; rfl
 | cons s ss ih =>
  have h1:=zjq inc (ok s List.mem_cons_self) (bd s List.mem_cons_self) m
  have h2:=ih (fun x hx=>ok x (List.mem_cons_of_mem _ hx)) fun x hx=>bd x (List.mem_cons_of_mem _ hx)
  have e:((ms.take (zav ms m)).map fun b=>netS (s :: ss) (some b)) = (ms.take (zav ms m)).map fun b=>oneS s (some b) + netS ss (some b):=List.map_congr_left fun b _=>zgK s ss (some b)
  rw [e,sum_add,zgK,List.filter_cons]
  by_cases c:inS m s = true
  ·rw [if_pos c] at h1 ⊢; rw [List.length_cons]; omega
  ·rw [if_neg c] at h1 ⊢; omega
def cntE (es:List Ent) (m:Int) : Nat:=(es.filter fun e=>zac m e.2).length
theorem zmY {l:List Stt} (h:Can l) (m:Int) : (l.filter fun s=>inS m s).length = if zac m l = true then 1 else 0:=by
 induction l with
 | nil=>rfl
 | cons s l ih =>
  have h2:=ih h.tail
  rw [List.filter_cons]
  by_cases c:inS m s = true
  ·have nl : ¬ zac m l = true:=fun z=>by
    obtain ⟨b,e1,e2⟩:=h.behind z
    have:=(zaz.mp c).2 b e1
    omega
   rw [if_neg nl] at h2
   rw [if_pos c,List.length_cons,h2,if_pos (zaE.mpr (.inl c))]
  ·rw [if_neg c,h2]
   by_cases d:zac m l = true
   ·rw [if_pos d,if_pos (zaE.mpr (.inr d))]
   ·rw [if_neg d,if_neg (fun z=>(zaE.mp z).elim c d)]
theorem zlH {es:List Ent} (h:∀ e ∈ es,Can e.2) (m:Int) : ((allS es).filter fun s=>inS m s).length = cntE es m:=by
 unfold allS cntE
 induction es with
 | nil=>rfl
 | cons e es ih =>
  rw [List.flatMap_cons,List.filter_append,List.length_append,ih fun x hx=>h x (List.mem_cons_of_mem _ hx),zmY (h e List.mem_cons_self),List.filter_cons]
  by_cases c:zac m e.2 = true
  ·rw [if_pos c,if_pos c,List.length_cons]; omega
  ·rw [if_neg c,if_neg c]; omega
abbrev Pc:=Int × Stt
def pcsF (f:Option Int → Int) (ms:List Int) (n:Nat) : List Pc:=(List.range n).filterMap fun j=>if 0 < hgt f ms j then some (hgt f ms j,stt ms j j) else none
theorem zgf (f:Option Int → Int) (ms:List Int) (n:Nat) : pcsF f ms (n + 1) = pcsF f ms n ++ if 0 < hgt f ms n then [(hgt f ms n,stt ms n n)] else []:=by
 unfold pcsF
 rw [List.range_succ,List.filterMap_append]
 congr 1
 by_cases c:0 < hgt f ms n
 ·simp [c]
 ·simp [c]
theorem zfh (f:Option Int → Int) (ms:List Int) (n:Nat) : (pcsF f ms n).length ≤ n:=by
 have:=List.length_filterMap_le (fun j=>if 0 < hgt f ms j then some (hgt f ms j,stt ms j j) else none) (List.range n)
 rw [List.length_range] at this
 exact this
theorem zkr {f:Option Int → Int} {ms:List Int} {j:Nat} {b:Int} (h:ms[j]? = some b) : hgt f ms (j + 1) = hgt f ms j + f (some b):=by
 unfold hgt
 rw [take_snoc h,List.map_append,List.sum_append]
 simp; omega
structure Pcs (es:List Ent) (pcs:List Pc) : Prop where
 ok:∀ p ∈ pcs,okS p.2
 sem:∀ m h,(∃ p ∈ pcs,p.1 = h ∧ inS m p.2 = true) ↔ (h = (cntE es m:Int) ∧ 0 < h)
 len:pcs.length ≤ 2 * (allS es).length + 1
 bd:∀ p ∈ pcs,∀ x,p.2.1 = some x ∨ p.2.2 = some x → x ∈ bnds (allS es)
theorem zof {es : List Ent} {ms : List Int} (can : ∀ e ∈ es, Can e.2) (inc : Inc ms) (mem : ∀ b, b ∈ ms ↔ keyS (allS es) (some b)) : Pcs es (pcsF (netS (allS es)) ms (ms.length + 1)) := by
  have ok:∀ s ∈ allS es,okS s:=fun s hs=>by
    obtain ⟨e,he,hs⟩:=List.mem_flatMap.mp hs
    exact (can e he).1 s hs
  have key:∀ x,keyS (allS es) (some x) ↔ x ∈ bnds (allS es):=fun x=>by
    rw [show x ∈ bnds (allS es) ↔ ∃ s ∈ allS es,s.1 = some x ∨ s.2 = some x by unfold bnds; simp only [List.mem_flatMap,List.mem_append,Option.mem_toList]]
    exact ⟨fun ⟨s,a,b⟩=>⟨s,a,b.imp id (·.1)⟩,fun ⟨s,a,b⟩=>⟨s,a,b.imp id fun z=>⟨z,fun q=>nomatch q⟩⟩⟩
  have bd:∀ s ∈ allS es,∀ x,s.1 = some x ∨ s.2 = some x → x ∈ ms:=fun s hs x hx=>(mem x).mpr ⟨s,hs,hx.imp id fun z=>⟨z,fun q=>nomatch q⟩⟩
  have cnt:∀ m,hgt (netS (allS es)) ms (zav ms m) = (cntE es m:Int):=fun m=>by rw [zjh inc ok bd,zlH can]
  have memp:∀ p,p ∈ pcsF (netS (allS es)) ms (ms.length + 1) ↔ ∃ j,j ≤ ms.length ∧ 0 < hgt (netS (allS es)) ms j ∧ p = (hgt (netS (allS es)) ms j,stt ms j j):=fun p=>by
    unfold pcsF
    rw [List.mem_filterMap]
    constructor
    · rintro ⟨j,hj,e⟩
      by_cases c:0 < hgt (netS (allS es)) ms j
      · rw [if_pos c] at e; exact ⟨j,by have:=List.mem_range.mp hj; omega,c,(Option.some.inj e).symm⟩
      · rw [if_neg c] at e; cases e
    · rintro ⟨j,hj,c,rfl⟩
      exact ⟨j,List.mem_range.mpr (by omega),by rw [if_pos c]⟩
  refine ⟨fun p hp=>?_,fun m h=>?_,?_,fun p hp x hx=>?_⟩
  · obtain ⟨j,_,_,rfl⟩:=(memp p).mp hp
    exact ziA inc (Nat.le_refl j)
  · constructor
    · rintro ⟨p,hp,rfl,hm⟩
      obtain ⟨j,hj,c,rfl⟩:=(memp p).mp hp
      have e:=(zel inc hj m).mp hm
      have ej:j = zav ms m:=by omega
      rw [ej] at c ⊢
      exact ⟨cnt m,c⟩
    · rintro ⟨rfl,c⟩
      refine ⟨_,(memp _).mpr ⟨zav ms m,zbc ms m,by rw [cnt]; exact c,rfl⟩,cnt m,(zel inc (zbc ms m) m).mpr ⟨Nat.le_refl _,Nat.le_refl _⟩⟩
  · have h1:=zfh (netS (allS es)) ms (ms.length + 1)
    have h2:=zax (zf2 inc) (m:=bnds (allS es)) fun b hb=>(key b).mp ((mem b).mp hb)
    have h3:∀ l:List Stt,(bnds l).length ≤ 2 * l.length:=fun l=>by
      unfold bnds
      induction l with
      | nil=>exact Nat.le_refl _
      | cons s l ih => rw [List.flatMap_cons, List.length_append, List.length_append, List.length_cons]; have : s.1.toList.length ≤ 1 := by cases s.1 <;> simp
                       have:s.2.toList.length ≤ 1:=by cases s.2 <;> simp
                       omega
    have:=h3 (allS es)
    omega
  · obtain ⟨j,_,_,rfl⟩:=(memp p).mp hp
    refine (key x).mp ((mem x).mp ?_)
    rcases hx with h | h
    · have h:(if j = 0 then none else ms[j - 1]?) = some x:=h
      by_cases c:j = 0
      · rw [if_pos c] at h; cases h
      · rw [if_neg c] at h; exact List.mem_of_getElem? h
    · exact List.mem_of_getElem? (show ms[j]? = some x from h)
def PcAt (H:Hp) (v:V) (p:Pc) : Prop:=∃ t u,v = .ref t ∧ H t = some (.tup [.ref u,vO p.2.1,vO p.2.2]) ∧ H u = some (.tup [.int p.1])
theorem SumsAt.off {x l:Addr} {H H':Hp} {C dx:Addr} {fs:List (Str × V)} (h:SumsAt H l) (hx:H x = some (.ins C dx fs)) (o:Off x H H') : SumsAt H' l:=by
 obtain ⟨u,a,b⟩:=h
 exact ⟨u,o _ _ (zbt a hx (fun z=>nomatch z)) a,o _ _ (zbt b hx (fun z=>nomatch z)) b⟩
theorem SumsAt.same {l:Addr} {H H':Hp} (h:SumsAt H l) (s:Same H H') : SumsAt H' l:=let ⟨u,a,b⟩:=h; ⟨u,s _ _ a,s _ _ b⟩
theorem zfQ:("turn" : Str) ≠ "sums" ∧ ("turn" : Str) ≠ "height" ∧ ("turn" : Str) ≠ "totals" ∧ ("turn" : Str) ≠ "rising" := by decide +kernel
theorem zfN:("told" : Str) ≠ "sums" ∧ ("told" : Str) ≠ "height" ∧ ("told" : Str) ≠ "totals" ∧ ("told" : Str) ≠ "rising" := by decide +kernel
section
variable {P:Program} {w:World} {K:PySem.W.Frag} {C x l:Addr} {H:Hp} {D:Ends}
theorem zji {q : Addr} {us : List V} {bs : List Bool} {v0 v1 v2 v4 v5 v8 o6 o7 : Option V} {h : Int} (hq : H q = some (.lst us)) (pu : Paired (EvAt H) us bs) (tal : zcA C H x l h) (sums : SumsAt H l)
    (kont:∀ H' o6 o7,Off x H H' → zcA C H' x l (h + bal bs) → D.nx [v0,v1,v2,some (.ref x),v4,v5,o6,o7,v8] H') :
    ∃ W : Nat → Nat → St → Hp → Prop, (∃ m, W 0 m [v0, v1, v2, some (.ref x), v4, v5, o6, o7, v8] H) ∧ ∀ i m σ H, W i m σ H →
      ((Itl K q).stop i H ∧ D.nx σ H) ∨ ((Itl K q).go i H ∧ ∃ N:St → Hp → Prop,(∀ σ' H',N σ' H' → ∃ m',m' < m ∧ W (i + 1) m' σ' H') ∧ ∀ x H',(Itl K q).yld i H x H' → (gTup K 2 (zbp (zaw 6) (zbp (zaw 7) gNil))) x σ H' fun σ2 H2 =>
        (zeX (zhd C "turn" (zdU C) [] E0 (tVar 3) (zal (tVar 6) (zal (tVar 7) tNil)))) { D with nx:=N,ct:=N,bk:=D.nx } σ2 H2):=by
  obtain ⟨dx,tt,rr,hx⟩:=id tal
  have nq:q ≠ x:=zbt hq hx (fun z=>nomatch z)
  refine zaA (K:=K) (a:=q) (xs:=us) (fun i σ H'=>∃ (o6 o7:Option V),σ = [v0,v1,v2,some (.ref x),v4,v5,o6,o7,v8] ∧ Off x H H' ∧ zcA C H' x l (h + bal (bs.take i)))
    ⟨o6,o7,rfl,Off.refl x H,by rw [List.take_zero]; show zcA C H x l (h + 0); rw [Int.add_zero]; exact tal⟩ (fun i σ H' _ ⟨_,_,_,off,_⟩=>SqL.of (off _ _ nq hq)) ?_ ?_
  · rintro i y σ H1 hy ⟨o6,o7,rfl,off,dx1,t1,r1,hx1⟩
    obtain ⟨b,hb,t,p,rfl,ht⟩:=zaj pu hy
    have ht1:=off _ _ (zbt ht hx (fun z=>nomatch z)) ht
    refine ⟨t,_,rfl,SqT.of ht1,rfl,_,_,rfl,_,_,rfl,rfl,?_⟩
    refine ⟨_,rfl,x,dx1,_,rfl,hx1,zjz zfQ.1 zfQ.2.1 zfQ.2.2.1 zfQ.2.2.2,_,rfl,_,rfl,x,l,p,b,_,rfl,⟨dx1,t1,r1,hx1⟩,sums.off hx off,fun H2 off2 tal2=>⟨_,_,rfl,off.trans off2,?_⟩⟩
    rw [take_snoc hb,zhx,← Int.add_assoc]
    exact tal2
  · rintro σ H1 ⟨o6,o7,rfl,off,t1⟩
    rw [Paired.length pu,List.take_length] at t1
    exact kont H1 o6 o7 off t1
theorem zgJ {te:TE} {b:Addr} {ys:List V} {pcs:List Pc} {σ:St} {h:Int} {s e:Option Int} (T:Tly K C) (tal:zcA C H x l h) (sums:SumsAt H l) (h3:σ[3]? = some (some (.ref x))) (h4:σ[4]? = some (some (vO s))) (h5:σ[5]? = some (some (.ref b))) (ht:∀ H Q,te σ H Q = Q (vO e) H ∨ ∃ i,te = tVar i ∧ σ[i]? = some (some (vO e)))
  (hb:H b = some (.lst ys)) (py:Paired (PcAt H) ys pcs) (l9:pcs.length ≤ 900)
  (kont:∀ H' ys',(∀ c o,c ≠ b → H c = some o → H' c = some o) → H' b = some (.lst ys') → Paired (PcAt H') ys' (pcs ++ if 0 < h then [(h,(s,e))] else []) → D.nx σ H') :
  tIfS (zhc (tOp (rI0 fun i j=>.bl (decide (j < i))) (tFld K (tVar 3) "height") (tC (.int 0)))) (zeX (tBM K "list" zbG (tVar 5) (zal (tTup (zal (zhd C "told" (zdR C) [] E0 (tVar 3) tNil) (zal (tVar 4) (zal te tNil)))) tNil))) zkk D σ H:=by
 obtain ⟨dx,tt,rr,hx⟩:=id tal
 have tr:∀ (H:Hp) (Q:VK),Q (vO e) H → te σ H Q:=fun H Q q=>by
  rcases ht H Q with z | ⟨i,rfl,z⟩
  ·rw [z]; exact q
  ·exact ⟨_,z,q⟩
 refine ⟨_,h3,x,C,dx,_,_,rfl,hx,T.cl,T.n2,zcv,_,_,rfl,rfl,_,rfl,?_⟩
 refine ite2 (fun c=>?_) (fun c=>?_)
 ·have c':0 < h:=of_decide_eq_true c
  rw [if_pos c'] at kont
  refine ⟨_,h5,.inl ⟨rfl,_,SqL.of hb⟩,_,h3,x,dx,_,rfl,hx,zjz zfN.1 zfN.2.1 zfN.2.2.1 zfN.2.2.2,x,l,h,rfl,tal,sums,fun u H1 s1 hu h1=>⟨_,h4,tr _ _ ⟨by show 3 ≤ sizeLine; decide,fun v hv=>?_⟩⟩⟩
  have s2:Same H1 (upd H1 v (.tup [.ref u,vO s,vO e])):=(Same.refl H1).upd hv
  have u2:upd H1 v (.tup [.ref u,vO s,vO e]) v = some (.tup [.ref u,vO s,vO e]):=zaa
  generalize upd H1 v (.tup [.ref u,vO s,vO e]) = H2 at s2 u2 ⊢
  have s12:=s1.trans s2
  have hb2:=s12 _ _ hb
  have nt:=zaJ hb2
  refine ⟨b,ys,_,rfl,rfl,hb2,zae (by rw [Paired.length py]; omega),kont _ _ (fun c o n q=>by rw [zai n]; exact s12 _ _ q) zaa ?_⟩
  exact zah (R:=PcAt (upd H2 b (.lst (ys ++ [.ref v])))) ⟨v,u,rfl,zao nt _ _ u2,zao nt _ _ (s2 _ _ h1)⟩ (Paired.mapP py fun _ _ ⟨t,u,a1,a2,a3⟩=>⟨t,u,a1,zao nt _ _ (s12 _ _ a2),zao nt _ _ (s12 _ _ a3)⟩)
 ·have c' : ¬ 0 < h:=fun z=>c (decide_eq_true z)
  rw [if_neg c',List.append_nil] at kont
  exact kont H ys (fun _ _ _ q=>q) hb py
end
theorem zd3 {ev:List Ev} {k:Option Int} (h:k ∉ ev.map (·.1)) : zb1 ev k = 0:=by
 induction ev with
 | nil=>rfl
 | cons e ev ih =>
  rw [zcg,if_neg (fun z=>h (by rw [List.map_cons,z]; exact List.mem_cons_self)),ih fun z=>h (List.mem_cons_of_mem _ z)]
  rfl
theorem zjb {ev:List Ev} (nd:(ev.map (·.1)).Nodup) {e:Ev} (he:e ∈ ev) : zb1 ev e.1 = bal e.2.2:=by
 obtain ⟨l1,l2,rfl⟩:=List.append_of_mem he
 rw [List.map_append,List.map_cons] at nd
 obtain ⟨_,n2,n3⟩:=List.nodup_append.mp nd
 obtain ⟨n4,_⟩:=List.nodup_cons.mp n2
 rw [zcX,zcg,if_pos rfl,zd3 (ev:=l1) (fun z=>n3 _ z _ List.mem_cons_self rfl),zd3 (ev:=l2) n4]
 omega
theorem zln {P:Program} {w:World} {H0 H:Hp} {d:Addr} {o:Obj} {ev:List Ev} (T:TnE P w H0 H d o ev) (nd:(ev.map (·.1)).Nodup) {k:Option Int} (hk:k ∈ ev.map (·.1)) :
  ∃ q us bs,valV (ev.map fun e=>(e.1,V.ref e.2.1)) k = some (.ref q) ∧ H q = some (.lst us) ∧ Paired (EvAt H) us bs ∧ bal bs = zb1 ev k:=by
 rcases zhq (ev:=ev) (k:=k) with ⟨e,he,rfl,q⟩ | ⟨n,_⟩
 ·obtain ⟨us,a,b⟩:=T.ls e he
  exact ⟨e.2.1,us,e.2.2,q,a,b,(zjb nd he).symm⟩
 ·exact absurd hk n
theorem zmn {ms:List Int} (nd:ms.Nodup) (le:ms.Pairwise (· ≤ ·)) : Inc ms:=by
 have:=List.Pairwise.and nd le
 exact this.imp fun h=>by omega
theorem ziR {l:List (Option Int)} (h:l.Nodup) : (l.filterMap id).Nodup:=by
 induction l with
 | nil=>exact .nil
 | cons o l ih =>
  obtain ⟨n1,n2⟩:=List.nodup_cons.mp h
  cases o with
  | none=>exact ih n2
  | some b =>
   show (b :: l.filterMap id).Nodup
   refine List.nodup_cons.mpr ⟨fun z=>n1 ?_,ih n2⟩
   obtain ⟨o,ho,e⟩:=List.mem_filterMap.mp z
   have e:o = some b:=e
   rw [← e]; exact ho
theorem zl6 {l:List (Option Int)} {b:Int} : b ∈ l.filterMap id ↔ some b ∈ l:=by
 rw [List.mem_filterMap]
 exact ⟨fun ⟨o,ho,e⟩=>by have e:o = some b:=e; rw [← e]; exact ho,fun h=>⟨_,h,rfl⟩⟩
theorem TnE.off {P:Program} {w:World} {H0 H H':Hp} {d:Addr} {o:Obj} {ev:List Ev} (T:TnE P w H0 H d o ev) (k:∀ c u,(∀ xs,u = .lst xs → ∃ e ∈ ev,c = e.2.1) → (∀ C dx fs,u ≠ .ins C dx fs) → H c = some u → H' c = some u) (s:Same H0 H') : TnE P w H0 H' d o ev :=
 ⟨k _ _ (fun _ z=>nomatch z) (fun _ _ _ z=>nomatch z) T.at',T.of,fun e he=>let ⟨us,a,b⟩:=T.ls e he
  ⟨us,k _ _ (fun _ _=>⟨e,he,rfl⟩) (fun _ _ _ z=>nomatch z) a,Paired.mapP b fun _ _ ⟨t,p,x,y⟩=>⟨t,p,x,k _ _ (fun _ z=>nomatch z) (fun _ _ _ z=>nomatch z) y⟩⟩,T.nw,T.nd,s,T.fr⟩
section
variable {P:Program} {w:World} {K:PySem.W.Frag} {mg:Str → Option Value} {base:Heap}
def zds:Sp:=fun vs H Q _=>∃ (l a:Addr) (es:List Ent),vs = [.ref l,.ref a] ∧ SumsAt H l ∧ SheetAt H a es ∧ (∀ e ∈ es,Can e.2) ∧ (allS es).length ≤ 31 ∧
 ∀ (D:Addr) (H':Hp) (ys:List V) (pcs:List Pc),Same H H' → H D = none → H' D = some (.lst ys) → Paired (PcAt H') ys pcs → Pcs es pcs → Q (.ref D) H'
theorem ze8:FnScope ["sums","entries","turns","tally","start","pieces","row","comes","moment"] ["sums","entries"] (zad zdn):=⟨rfl,rfl,rfl,by decide +kernel,rfl,by decide +kernel,by decide +kernel⟩
theorem zh8 {f C:Addr} {fd:FuncData} (F:Fun K "tallied" "tallied" zdn f fd) (B:Blts mg) (T:Tly K C) (F_turns_of:FnP P w K mg base 1 "turns_of" ["entries"] (zcU P w)) (MK:MkP P w K mg base 1 C "Tally" ["self","sums"] (zfm C))
  (MT:MethP P w K mg base 1 C "turn" ["self","row","comes"] (zdU C)) (MD:MethP P w K mg base 2 C "told" ["self"] (zdR C)) : FnOk P w K mg base CX0 3 f fd ["sums","entries"] zds:=by
 refine F.okJ ze8 (fun vs H Q E h=>?_) (fun cdv A outer s H vs Q E hr h=>?_)
 ·obtain ⟨_,_,_,rfl,_⟩:=h
  rfl
 ·obtain ⟨l,a,es,rfl,sums,sheet,can,l31,k⟩:=h
  have nd:=ze8.nd
  have nd1:(["bound"] : List Str).Nodup:=by decide +kernel
  refine ⟨_,(zab (zar 2 nd (e_fn F_turns_of hr (a1 (e_v 1))))
   (zab (zar 3 nd (znE MK hr (a1 (e_v 0))))
   (zab (zar 4 nd e_n)
   (zab (zar 5 nd (zbl a0))
   (zab (zbd (zat (zoa (e_v 2) e_n (zbl a0))) (zbv (zaf (g_n 6 nd) (zaf (g_n 7 nd) zaR))) (zag (zhC (ziH MT hr (e_v 3) (ac (e_v 6) (a1 (e_v 7)))))))
   (zab (zbd (zat (e_cb zjt B.sorted PyProof.Rows.boot_sorted (a1c (zaZ (Nc:=["bound"]) (js:=[none]) (g:=(zaw 0)) (tt:=(tB (zmV (tVar 0)))) (te:=(tVar 0))
   (zaB rfl rfl rfl rfl (fun x c h=>by cases h) rfl rfl rfl) (zl1 (e_v 2))
   (fun pins C s3 H3 fp=>⟨(g_n 0 nd1),.inr ⟨_,rfl,(zc8 (e_v 0))⟩,(e_v 0)⟩))))) (g_n 8 nd)
    (zab (s_if (zaW o_gt (zhh (e_v 3)) e_i) (zag (zdB (e_v 5) (zbs (ac (ziO MD hr (e_v 3)) (ac (e_v 4) (a1 (e_v 8))))))) zaS)
    (zab (zbd (zat (zox (e_v 2) (e_v 8))) (zbv (zaf (g_n 6 nd) (zaf (g_n 7 nd) zaR))) (zag (zhC (ziH MT hr (e_v 3) (ac (e_v 6) (a1 (e_v 7)))))))
    (zag (zar 4 nd (e_v 8))))))
   (zab (s_if (zaW o_gt (zhh (e_v 3)) e_i) (zag (zdB (e_v 5) (zbs (ac (ziO MD hr (e_v 3)) (ac (e_v 4) (a1 e_n)))))) zaS)
   (zag (zau (e_v 5)))))))))),?_⟩
  refine ⟨_,rfl,a,es,rfl,sheet,by omega,fun d H1 ⟨o,ev,T1,B1,hb,hk⟩=>?_⟩
  have kn:(ev.map (·.1)).Nodup:=by
   have:=T1.of.nd
   rw [List.map_map] at this
   exact this
  refine ⟨_,rfl,fun x dx hx hdx nxd=>?_⟩
  have s2:Same H1 (upd (upd H1 dx (.own x)) x (.ins C dx [])):=((Same.refl H1).upd hdx).upd hx
  have u2:upd (upd H1 dx (.own x)) x (.ins C dx []) x = some (.ins C dx []):=zaa
  generalize upd (upd H1 dx (.own x)) x (.ins C dx []) = H2 at s2 u2 ⊢
  refine ⟨x,dx,l,rfl,u2,sums.same (T1.sm.trans s2),fun H3 off3 tal3=>⟨rfl,?_⟩⟩
  have s13:Same H1 H3:=fun c u q=>off3 c u (fun z=>by rw [z,hx] at q; cases q) (s2 c u q)
  have s03:=T1.sm.trans s13
  have hx0:H x = none:=T1.sm.free hx
  clear off3 s2 u2
  refine ⟨Nat.zero_le _,fun b hb4=>?_⟩
  have s4:Same H3 (upd H3 b (.lst [])):=(Same.refl H3).upd hb4
  have u4:upd H3 b (.lst []) b = some (.lst []):=zaa
  generalize upd H3 b (.lst []) = H4 at s4 u4 ⊢
  have hb0:H b = none:=s03.free hb4
  have T4:TnE P w H H4 d o ev:=T1.same (s13.trans s4)
  refine ⟨_,rfl,d,o,_,rfl,T4.at',T4.of,Nat.zero_le _,fun z hz=>?_⟩
  have s5:Same H4 (upd H4 z (.lst [])):=(Same.refl H4).upd hz
  have u5:upd H4 z (.lst []) z = some (.lst []):=zaa
  generalize upd H4 z (.lst []) = H5 at s5 u5 ⊢
  have T5:TnE P w H H5 d o ev:=T4.same s5
  have tal5:zcA C H5 x l 0:=let ⟨a1,a2,a3,a4⟩:=tal3; ⟨a1,a2,a3,s5 _ _ (s4 _ _ a4)⟩
  have sums5:SumsAt H5 l:=sums.same T5.sm
  obtain ⟨q,us,bs,eq,hq,pu,bq⟩ : ∃ q us bs,(valV (ev.map fun e=>(e.1,V.ref e.2.1)) none).getD (.ref z) = .ref q ∧ H5 q = some (.lst us) ∧ Paired (EvAt H5) us bs ∧ bal bs = zb1 ev none:=by
   by_cases c:none ∈ ev.map (·.1)
   ·obtain ⟨q,us,bs,e1,e2,e3,e4⟩:=zln T5 kn c
    exact ⟨q,us,bs,by rw [e1]; rfl,e2,e3,e4⟩
   ·rcases zhq (ev:=ev) (k:=none) with ⟨e,he,ee,_⟩ | ⟨_,e1⟩
    ·exact absurd (ee ▸ List.mem_map_of_mem he) c
    ·exact ⟨z,[],[],by rw [e1]; rfl,u5,.nil,(zd3 c).symm⟩
  refine ⟨o,_,none,T5.at',T5.of,rfl,q,eq,⟨us,SqL.of hq⟩,zji hq pu tal5 sums5 fun H6 o6 o7 off6 tal6=>?_⟩
  rw [bq,Int.zero_add,hb] at tal6
  have nx5:∀ {c u},H5 c = some u → (∀ C dx fs,u ≠ .ins C dx fs) → c ≠ x:=fun {c u} hc hu z=>by
   obtain ⟨a1,a2,a3,a4⟩:=tal5
   rw [z,a4] at hc
   exact hu _ _ _ (Option.some.inj hc).symm
  have s06:Same H H6:=fun c u q=>off6 c u (fun z=>by rw [z,hx0] at q; cases q) (T5.sm _ _ q)
  have T6:TnE P w H H6 d o ev:=T5.off (fun c u _ nu hc=>off6 c u (nx5 hc nu) hc) s06
  have u6:H6 b = some (.lst []):=off6 _ _ (nx5 (s5 _ _ u4) (fun _ _ _ z=>nomatch z)) (s5 _ _ u4)
  have sums6:SumsAt H6 l:=sums.same s06
  clear nx5 pu hq eq us bs bq tal5 sums5 T5 s5 u5 hz T4 s4 u4 tal3
  refine ⟨_,rfl,d,o,_,rfl,T6.at',T6.of,fun D1 hD1=>?_⟩
  refine zh4 T6.of (fun i σ H'=>∃ (o:Option V),σ = [o] ∧ Same H6 H' ∧ H' D1 = some (.lst ((((ev.map (·.1)).take i).filterMap id).map V.int)))
   ⟨none,rfl,(Same.refl H6).upd hD1,zaa⟩ (fun i σ H' _ ⟨_,_,sm,_⟩=>sm _ _ T6.at') ?_ ?_
  ·rintro i pr σ H' hi ⟨oo,rfl,sm,h4⟩
   obtain ⟨e,he,rfl⟩:=zdW hi
   have hlt:=(List.getElem?_eq_some_iff.mp he).1
   have hlt2:=B1.1
   have het:(ev.map (·.1))[i]? = some e.1:=by rw [List.getElem?_map,he]; rfl
   have el:(ev.map (·.1)).take (i + 1) = (ev.map (·.1)).take i ++ [e.1]:=take_snoc het
   refine ⟨_,rfl,_,rfl,?_⟩
   rw [el,List.filterMap_append]
   cases ek:e.1 with
   | none =>
    refine iteF ⟨_,rfl,sm,?_⟩
    rw [h4]; simp
   | some n =>
    refine iteT ⟨_,rfl,_,h4,zae ?_,_,rfl,sm.upd hD1,?_⟩
    ·rw [List.length_map]
     have:=List.length_filterMap_le id ((ev.map (·.1)).take i)
     rw [List.length_take] at this
     omega
    ·rw [zaa]; simp [vO]
  rintro σ H7 ⟨oo,rfl,s7,h7⟩
  rw [List.length_map,show (ev.map (·.1)).take ev.length = ev.map (·.1) by rw [← List.length_map (f:=(·.1)) (as:=ev)]; exact List.take_length] at h7
  have lns:((ev.map (·.1)).filterMap id).length < 64:=by
   have:=List.length_filterMap_le id (ev.map (·.1))
   rw [List.length_map] at this
   have:=B1.1
   omega
  refine ⟨D1,_,rfl,SqL.of h7,lns,fun D2 ms hD2 perm le=>?_⟩
  have inc:Inc ms:=zmn (perm.nodup_iff.mpr (ziR kn)) le
  have mem:∀ b,b ∈ ms ↔ keyS (allS es) (some b):=fun b=>by rw [perm.mem_iff,zl6,hk]
  have lms:ms.length < 64:=by rw [perm.length_eq]; exact lns
  have s8:Same H7 (upd H7 D2 (.lst (ms.map V.int))):=(Same.refl H7).upd hD2
  have u8:upd H7 D2 (.lst (ms.map V.int)) D2 = some (.lst (ms.map V.int)):=zaa
  generalize upd H7 D2 (.lst (ms.map V.int)) = H8 at s8 u8 ⊢
  have s68:=s7.trans s8
  have T8:TnE P w H H8 d o ev:=T6.same s68
  have tal8:zcA C H8 x l (hgt (netS (allS es)) ms 0):=by
   obtain ⟨a1,a2,a3,a4⟩:=tal6
   refine ⟨a1,a2,a3,s68 _ _ ?_⟩
   unfold hgt
   rw [List.take_zero,show (([] : List Int).map fun b=>netS (allS es) (some b)).sum = 0 from rfl,Int.add_zero]
   exact a4
  have b8:=s68 _ _ u6
  have sums8:=sums6.same s68
  obtain ⟨x1,x2,x3,hx8⟩:=id tal8
  have nxb:x ≠ b:=zbt hx8 b8 (fun z=>nomatch z)
  have ndx:d ≠ x:=zbt T8.at' hx8 (fun z=>nomatch z)
  have n2b:D2 ≠ b:=fun z=>by rw [z,s7 _ _ u6] at hD2; cases hD2
  have n2x:D2 ≠ x:=zbt u8 hx8 (fun z=>nomatch z)
  clear s7 s8 h7 hD1 hD2 T6 tal6 u6 sums6 s06 off6 s68
  have keepT:∀ {H':Hp},(∀ c u,c ≠ x → c ≠ b → H8 c = some u → H' c = some u) → TnE P w H H' d o ev:=fun {H'} kp=>T8.off (fun c u hl nu hc=>kp c u (fun z=>by rw [z,hx8] at hc; exact nu _ _ _ (Option.some.inj hc).symm) (fun z=>by
    rw [z,b8] at hc
    obtain ⟨e,he,ee⟩:=hl _ (Option.some.inj hc).symm
    have:=T1.ls e he
    obtain ⟨us,q1,_⟩:=this
    have q2:=s13 _ _ q1
    rw [← ee,z,hb4] at q2
    cases q2) hc) fun c u hc=>kp c u (fun z=>by rw [z,hx0] at hc; cases hc) (fun z=>by rw [z,hb0] at hc; cases hc) (T8.sm _ _ hc)
  have keepS:∀ {H':Hp},(∀ c u,c ≠ x → c ≠ b → H8 c = some u → H' c = some u) → SumsAt H' l:=fun {H'} kp=>sums.same (keepT kp).sm
  refine ⟨D2,rfl,⟨_,SqL.of u8⟩,zaA (K:=K) (a:=D2) (xs:=ms.map V.int) (fun i σ H'=>∃ (o6 o7 o8:Option V) (ys:List V),σ = [some (.ref l),some (.ref a),some (.ref d),some (.ref x),some (vO (stt ms i i).1),some (.ref b),o6,o7,o8] ∧ (∀ c u,c ≠ x → c ≠ b → H8 c = some u → H' c = some u) ∧ zcA C H' x l (hgt (netS (allS es)) ms i) ∧ H' b = some (.lst ys) ∧ Paired (PcAt H') ys (pcsF (netS (allS es)) ms i))
   ⟨_,_,_,[],rfl,fun _ _ _ _ h=>h,tal8,b8,.nil⟩ (fun i σ H' _ ⟨_,_,_,_,_,kp,_⟩=>SqL.of (kp _ _ n2x n2b u8)) ?_ ?_⟩
  ·rintro i y σ H9 hy ⟨o6,o7,o8,ys,rfl,kp,tal9,b9,py⟩
   obtain ⟨m,hm,rfl⟩:=zdW hy
   have hi:=(List.getElem?_eq_some_iff.mp hm).1
   have lp:=zfh (netS (allS es)) ms i
   have em:(stt ms i i).2 = some m:=hm
   refine zgJ (e:=some m) (s:=(stt ms i i).1) T tal9 (keepS kp) rfl rfl rfl (fun H Q=>.inr ⟨8,rfl,rfl⟩) b9 py (by omega) fun Ha ys' kpa ba pya=>?_
   have ep:pcsF (netS (allS es)) ms i ++ (if 0 < hgt (netS (allS es)) ms i then [(hgt (netS (allS es)) ms i,((stt ms i i).1,some m))] else []) = pcsF (netS (allS es)) ms (i + 1):=by
    rw [zgf,← em]
   rw [ep] at pya
   have kpA:∀ c u,c ≠ x → c ≠ b → H8 c = some u → Ha c = some u:=fun c u n1 n2 h=>kpa c u n2 (kp c u n1 n2 h)
   have Ta:=keepT kpA
   have tala:zcA C Ha x l (hgt (netS (allS es)) ms i):=let ⟨a1,a2,a3,a4⟩:=tal9; ⟨a1,a2,a3,kpa _ _ nxb a4⟩
   obtain ⟨q,us,bs,e1,hq,pu,bq⟩:=zln Ta kn (k:=some m) ((hk _).mpr ((mem m).mp (List.mem_of_getElem? hm)))
   refine ⟨_,rfl,_,rfl,d,o,_,some m,_,rfl,Ta.at',Ta.of,rfl,e1,q,rfl,⟨us,SqL.of hq⟩,zji hq pu tala (keepS kpA) fun Hb o6 o7 offb talb=>?_⟩
   obtain ⟨a1,a2,a3,hxa⟩:=id tala
   refine ⟨_,rfl,o6,o7,some (.int m),ys',?_,fun c u n1 n2 h=>offb c u n1 (kpA c u n1 n2 h),?_,offb _ _ nxb.symm ba,Paired.mapP pya fun _ _ ⟨t,u,b1,b2,b3⟩=>⟨t,u,b1,offb _ _ (zbt b2 hxa (fun z=>nomatch z)) b2,offb _ _ (zbt b3 hxa (fun z=>nomatch z)) b3⟩⟩
   ·have:(stt ms (i + 1) (i + 1)).1 = some m:=hm
    rw [this]; rfl
   ·rw [zkr hm,← hb,← bq]; exact talb
  ·rintro σ H9 ⟨o6,o7,o8,ys,rfl,kp,tal9,b9,py⟩
   rw [List.length_map] at tal9 py ⊢
   have lp:=zfh (netS (allS es)) ms ms.length
   have em:(stt ms ms.length ms.length).2 = none:=List.getElem?_eq_none (Nat.le_refl _)
   refine zgJ (e:=none) (s:=(stt ms ms.length ms.length).1) T tal9 (keepS kp) rfl rfl rfl (fun H Q=>.inl rfl) b9 py (by omega) fun Ha ys' kpa ba pya=>?_
   have ep:pcsF (netS (allS es)) ms ms.length ++ (if 0 < hgt (netS (allS es)) ms ms.length then [(hgt (netS (allS es)) ms ms.length,((stt ms ms.length ms.length).1,none))] else []) = pcsF (netS (allS es)) ms (ms.length + 1):=by
    rw [zgf,← em]
   rw [ep] at pya
   exact ⟨_,rfl,k b Ha ys' _ (keepT fun c u n1 n2 h=>kpa c u n2 (kp c u n1 n2 h)).sm hb0 ba pya (zof can inc mem)⟩
end
end Prf
namespace L2
open PySem PySem.Spec PyProof.Rows
section
variable {X:Cx} {pins:List (Addr × Obj)} {σ:St} {H:Hp} {s:Shared}
theorem zk6 {κ:Type} [DecidableEq κ] {kvs:List (κ × V)} {k:κ} {v:V} (h:k ∉ kvs.map (·.1)) : putK kvs k v = kvs ++ [(k,v)]:=by
 unfold putK
 rw [if_neg]
 intro z
 obtain ⟨kv,h1,h2⟩:=List.any_eq_true.mp z
 exact h (List.mem_map.mpr ⟨kv,h1,of_decide_eq_true h2⟩)
variable {o e f:Expr} {apos cpos:Pos} {td ty tx:TE} {k:Nat}
end
end L2
namespace L2
open PySem PySem.Spec PyProof.Rows
section
variable {X:Cx} {a b:Expr} {ta tb:TE} {pos:Pos} {k:Nat}
end
end L2
namespace Prf
open PySem L2 Wr
def pick (cs:List Nat) (r:List Int) : List Int:=cs.map fun i=>r.getD i 0
def colV (cs:List Nat) : List V:=cs.map fun (i:Nat)=>V.int (i:Int)
theorem zdM (cs:List Nat) (r:List Int) : (pick cs r).length = cs.length:=List.length_map ..
theorem zgn (fs:List Fact) (r:List Int) : (told fs r).length ≤ fs.length:=by unfold told; rw [List.length_map]; exact List.length_filter_le _ _
def EntS (H:Hp) (S:Addr → Prop) (v:V) (e:Ent) : Prop:=∃ t p q,v = .ref t ∧ H t = some (.tup [.ref p,.ref q]) ∧ H p = some (.tup (e.1.map V.int)) ∧ SpanAt H q e.2 ∧ S q
theorem EntS.same {H H':Hp} {S:Addr → Prop} {v:V} {e:Ent} (h:EntS H S v e) (s:Same H H') : EntS H' S v e:=let ⟨t,p,q,a,b,c,d,f⟩:=h; ⟨t,p,q,a,s _ _ b,s _ _ c,d.same s,f⟩
theorem EntS.wr {H:Hp} {S:Addr → Prop} {l:Addr} {o:HO} {v:V} {e:Ent} (hl:∀ xs,H l ≠ some (.tup xs)) (nS : ¬ S l) (h:EntS H S v e) : EntS (upd H l o) S v e:=by
 obtain ⟨t,p,q,a,b,c,d,f⟩:=h
 exact ⟨t,p,q,a,by rw [zai (fun z=>hl _ (by rw [← z]; exact b))]; exact b,by rw [zai (fun z=>hl _ (by rw [← z]; exact c))]; exact c,d.wr hl (fun z=>nS (z ▸ f)),f⟩
theorem zdP {l:List Stt} {x:Int} : x ∈ bnds l ↔ ∃ s ∈ l,s.1 = some x ∨ s.2 = some x:=by
 unfold bnds
 simp only [List.mem_flatMap,List.mem_append,Option.mem_toList]
theorem zhP {bs:List Int} (inc:Inc bs) {st:Stt} (h1:∀ x,st.1 = some x → x ∈ bs) (h2:∀ x,st.2 = some x → x ∈ bs) {m m':Int} (e:zav bs m = zav bs m') : inS m st = inS m' st:=by
 have key:∀ x ∈ bs,(x ≤ m ↔ x ≤ m'):=fun x hx=>by
  obtain ⟨i,hi⟩:=List.getElem?_of_mem hx
  rw [zbm inc i x hi,zbm inc i x hi,e]
 rw [Bool.eq_iff_iff,zaz,zaz]
 constructor
 ·rintro ⟨a,b⟩
  exact ⟨fun x hx=>(key x (h1 x hx)).mp (a x hx),fun x hx=>by have:=key x (h2 x hx); have:=b x hx; omega⟩
 ·rintro ⟨a,b⟩
  exact ⟨fun x hx=>(key x (h1 x hx)).mpr (a x hx),fun x hx=>by have:=key x (h2 x hx); have:=b x hx; omega⟩
theorem zk3 {g:List Int} (inc:Inc g) {l:List Stt} (h:∀ x ∈ bnds l,x ∈ g) {m m':Int} (e:zav g m = zav g m') : zac m l = zac m' l:=by
 have one:∀ {m m':Int},zav g m = zav g m' → zac m l = true → zac m' l = true:=fun {m m'} e z=>by
  obtain ⟨s,hs,hm⟩:=zam.mp z
  refine zam.mpr ⟨s,hs,?_⟩
  rw [← zhP inc (fun x hx=>h x (zdP.mpr ⟨s,hs,.inl hx⟩)) (fun x hx=>h x (zdP.mpr ⟨s,hs,.inr hx⟩)) e]
  exact hm
 rw [Bool.eq_iff_iff]
 exact ⟨one e,one e.symm⟩
theorem zhl {g:List Int} {l:List Stt} (hl:Can l) (h:∀ m m',zav g m = zav g m' → zac m l = zac m' l) : ∀ b ∈ bnds l,b ∈ g:=by
 classical
 refine zjg (φ:=fun k=>decide (∃ m,zav g m = k ∧ zac m l = true)) hl fun m=>?_
 rw [Bool.eq_iff_iff,decide_eq_true_iff]
 exact ⟨fun z=>⟨m,rfl,z⟩,fun ⟨m',e,z⟩=>by rw [h m m' e.symm]; exact z⟩
theorem zgi {K:PySem.W.Frag} {c p D:Addr} {row:List Int} {cs:List Nat} {H:Hp} {Q:VK} (hD:H D = none) (hc:H c = some (.lst (colV cs))) (hp:H p = some (.tup (row.map V.int))) (sub:∀ i ∈ cs,i < row.length) (l50:cs.length ≤ 50)
  (k:∀ H',Same H H' → H' D = some (.lst ((pick cs row).map V.int)) → Q (.ref D) H') : zdw (Itl K c) (zaw 0) tYes (tOp (rIxT K) (tVar 1) (tVar 0)) D Q [none,some (.ref p)] (upd H D (.lst [])):=by
 refine zaC (K:=K) (a:=c) (xs:=colV cs) (fun j _ σ H4=>∃ (o:Option V),σ = [o,some (.ref p)] ∧ Same H H4 ∧ H4 D = some (.lst ((pick (cs.take j) row).map V.int)))
  ⟨none,rfl,(Same.refl H).upd hD,zaa⟩ (fun j _ σ H4 _ ⟨_,_,sm,_⟩=>SqL.of (sm _ _ hc)) ?_ ?_
 ·rintro j y _ σ H4 hy ⟨o,rfl,sm,h4⟩
  obtain ⟨i,hi,rfl⟩:=zdW hy
  have hlt:=sub i (List.mem_of_getElem? hi)
  have hj:=(List.getElem?_eq_some_iff.mp hi).1
  refine ⟨_,rfl,_,rfl,p,_,_,_,rfl,rfl,SqT.of (sm _ _ hp),(show atI (row.map V.int) (i:Int) = some (.int (row.getD i 0)) from za1 (by simp [hlt])),_,h4,zae (by rw [List.length_map,zdM,List.length_take]; omega),[],_,rfl,sm.upd hD,?_⟩
  rw [zaa,take_snoc hi]
  unfold pick
  rw [List.map_append,List.map_append]
  rfl
 ·rintro _ σ H4 ⟨o,rfl,sm,h4⟩
  have e:(colV cs).length = cs.length:=List.length_map ..
  rw [e,List.take_length] at h4
  exact k H4 sm h4
section
variable {P:Program} {w:World} {K:PySem.W.Frag} {mg:Str → Option Value} {base:Heap}
def zcR:Sp:=fun vs H Q _=>∃ (p c:Addr) (row:List Int) (cs:List Nat),vs = [.ref p,.ref c] ∧ H p = some (.tup (row.map V.int)) ∧ H c = some (.lst (colV cs)) ∧ (∀ i ∈ cs,i < row.length) ∧ cs.length ≤ 50 ∧
 ∀ (t:Addr) (H':Hp),Same H H' → H t = none → H' t = some (.tup ((pick cs row).map V.int)) → Q (.ref t) H'
theorem zhg:FnScope ["row","columns"] ["row","columns"] (zad zcK):=⟨rfl,rfl,rfl,by decide +kernel,rfl,by decide +kernel,by decide +kernel⟩
theorem zg4 {f:Addr} {fd:FuncData} (F:Fun K "cells_in" "cells_in" zcK f fd) (B:Blts mg) : FnOk P w K mg base CX0 1 f fd ["row","columns"] zcR:=by
 refine F.okJ zhg (fun vs H Q E h=>?_) (fun cdv A outer s H vs Q E hr h=>?_)
 ·obtain ⟨_,_,_,_,rfl,_⟩:=h
  rfl
 ·obtain ⟨p,c,row,cs,rfl,hp,hc,sub,l50,k⟩:=h
  have nd:(["column","row"] : List Str).Nodup:=by decide +kernel
  refine ⟨_,(zag (zau (e_ct zd9 B.tuple PyProof.Rows.boot_tuple (a1c (zaZ (Nc:=["column","row"]) (js:=[none,some 0]) (g:=(zaw 0)) (tt:=tYes) (te:=(tOp (rIxT K) (tVar 1) (tVar 0)))
   (zaB rfl rfl rfl rfl (fun x c h=>by (obtain ⟨rfl,rfl⟩ : x = _ ∧ c = _:=(by simpa using h)); rfl) rfl rfl rfl) (zat (e_v 1))
   (fun pins C s3 H3 fp=>⟨(g_n 0 nd),.inl ⟨rfl,rfl⟩,(e_ix zbg (e_v 1) (e_v 0))⟩)))))),?_⟩
  refine ⟨_,rfl,c,rfl,⟨_,SqL.of hc⟩,fun D hD=>?_⟩
  refine zaC (K:=K) (a:=c) (xs:=colV cs) (fun j _ σ H4=>∃ (o:Option V),σ = [o,some (.ref p)] ∧ Same H H4 ∧ H4 D = some (.lst ((pick (cs.take j) row).map V.int)))
   ⟨none,rfl,(Same.refl H).upd hD,zaa⟩ (fun j _ σ H4 _ ⟨_,_,sm,_⟩=>SqL.of (sm _ _ hc)) ?_ ?_
  ·rintro j y _ σ H4 hy ⟨o,rfl,sm,h4⟩
   obtain ⟨i,hi,rfl⟩:=zdW hy
   have hlt:=sub i (List.mem_of_getElem? hi)
   have hj:=(List.getElem?_eq_some_iff.mp hi).1
   refine ⟨_,rfl,_,rfl,p,_,_,_,rfl,rfl,SqT.of (sm _ _ hp),(show atI (row.map V.int) (i:Int) = some (.int (row.getD i 0)) from za1 (by simp [hlt])),_,h4,zae (by rw [List.length_map,zdM,List.length_take]; omega),[],_,rfl,sm.upd hD,?_⟩
   rw [zaa,take_snoc hi]
   unfold pick
   rw [List.map_append,List.map_append]
   rfl
  ·rintro _ σ H4 ⟨o,rfl,sm,h4⟩
   have e:(colV cs).length = cs.length:=List.length_map ..
   rw [e,List.take_length] at h4
   exact ⟨D,_,rfl,.inl ⟨SqL.of h4,fun t ht=>k t _ (sm.trans ((Same.refl H4).upd ht)) (sm.free ht) zaa⟩⟩
end
section
variable {P:Program} {w:World} {K:PySem.W.Frag} {mg:Str → Option Value} {base:Heap}
def zan:Sp:=fun vs H Q _=>∃ (c k:Int),vs = [.int c,.int k] ∧ 0 ≤ k ∧ k ≤ 1000 ∧ ∀ r:Int,0 ≤ r → r < 2147483647 → Q (.int r) H
theorem za7:FnScope ["_law_cell","_law_k","_law_left","_law_j","_law_one"] ["_law_cell","_law_k"] (zad zb2):=⟨rfl,rfl,rfl,by decide +kernel,rfl,by decide +kernel,by decide +kernel⟩
theorem zfS {f:Addr} {fd:FuncData} (F:Fun K "_law_mixed" "_law_mixed" zb2 f fd) (B:Blts mg) : FnOk P w K mg base CX0 1 f fd ["_law_cell","_law_k"] zan:=by
 refine F.okJ za7 (fun vs H Q E h=>?_) (fun cdv A outer s H vs Q E hr h=>?_)
 ·obtain ⟨_,_,rfl,_⟩:=h
  rfl
 ·obtain ⟨c,k,rfl,k0,k1,q⟩:=h
  refine ⟨_,(zab (s_if (zaW o_gt (e_v 0) (e_op zdv e_i e_i)) (zab (zar 2 za7.nd (e_op zc5 (e_v 0) e_i))
    (zab (zbd (zcY B.range (a1 (e_v 1))) (g_n 3 za7.nd)
     (zag (zar 2 za7.nd (e_op zc5 (e_v 2) (e_op zdv e_i e_i)))))
    (zag (zau (e_op zbf (e_v 2) (e_op zdv e_i e_i)))))) zaS)
   (zab (zar 4 za7.nd (e_op zbf (e_op zdh (e_op zbu (e_op zbu (e_op zbf (e_v 0) e_i) (e_op zdh (e_op zdh e_i (e_v 1)) (e_v 1))) (e_op zdh e_i (e_v 1))) e_i) e_i))
   (zag (zau (e_op zbf (e_op zdh (e_v 4) (e_op zbu (e_op zbu (e_op zbf (e_v 4) e_i) (e_op zdh e_i (e_v 1))) e_i)) e_i))))),?_⟩
  refine ⟨_,rfl,_,_,rfl,rfl,⟨by decide,by decide,by decide⟩,_,_,rfl,rfl,_,rfl,?_⟩
  refine ite2 (fun _=>?_) (fun _=>?_)
  ·refine ⟨_,rfl,_,_,rfl,rfl,⟨by decide,by decide⟩,?_⟩
   refine ⟨_,rfl,_,rfl,by omega,by omega,zdc (n:=k.toNat) (fun i σ H'=>∃ (l:Int) (o:Option V),σ = [some (.int c),some (.int k),some (.int l),o,none] ∧ H' = H) ⟨_,none,rfl,rfl⟩ ?_ ?_⟩
   ·rintro i σ H' hi ⟨l,o,rfl,rfl⟩
    exact ⟨_,rfl,_,_,rfl,rfl,⟨by decide,by decide,by decide⟩,_,_,rfl,rfl,⟨by decide,by decide⟩,_,_,rfl,rfl⟩
   ·rintro σ H' ⟨l,o,rfl,rfl⟩
    exact ⟨_,rfl,_,_,rfl,rfl,⟨by decide,by decide,by decide⟩,_,_,rfl,rfl,by show (0:Int) < 10 ^ (7:Int).toNat; decide,q _ (Int.emod_nonneg _ (by decide)) (Int.lt_of_lt_of_le (Int.emod_lt_of_pos _ (by decide)) (by decide))⟩
  ·refine ⟨_,rfl,_,_,rfl,rfl,pz,_,rfl,_,_,rfl,rfl,.inl ⟨by decide,by decide⟩,_,rfl,_,_,rfl,rfl,.inr ⟨by omega,by omega⟩,_,_,rfl,rfl,_,rfl,_,_,rfl,rfl,.inl ⟨by decide,by decide⟩,_,_,rfl,rfl,_,_,rfl,rfl,.inr ⟨by decide,by decide⟩,_,_,rfl,rfl,pz,?_⟩
   have b1:0 ≤ (c % 2147483647 + 40503 * k * k + 17 * k) * 48271 % 2147483647:=Int.emod_nonneg _ (by decide)
   have b2:(c % 2147483647 + 40503 * k * k + 17 * k) * 48271 % 2147483647 < 2147483647:=Int.emod_lt_of_pos _ (by decide)
   generalize (c % 2147483647 + 40503 * k * k + 17 * k) * 48271 % 2147483647 = n1 at b1 b2 ⊢
   have c1:0 ≤ n1 % 65537:=Int.emod_nonneg _ (by decide)
   have c2:n1 % 65537 < 65537:=Int.emod_lt_of_pos _ (by decide)
   exact ⟨_,rfl,_,rfl,_,_,rfl,rfl,pz,_,rfl,_,_,rfl,rfl,.inl ⟨by decide,by decide⟩,_,_,rfl,rfl,_,_,rfl,rfl,_,_,rfl,rfl,.inl ⟨by omega,by omega⟩,_,_,rfl,rfl,pz,q _ (Int.emod_nonneg _ (by decide)) (Int.lt_of_lt_of_le (Int.emod_lt_of_pos _ (by decide)) (by decide))⟩
def zce:Sp:=fun vs H Q _=>∃ (c:Int),vs = [.int c] ∧ ∀ (p:Addr) (H':Hp) (x y z:Int),Same H H' → H p = none → H' p = some (.lst [.int x,.int y,.int z]) → Q (.ref p) H'
theorem zbC:FnScope ["_law_cell","_law_first_here"] ["_law_cell"] (zad zco):=⟨rfl,rfl,rfl,by decide +kernel,rfl,by decide +kernel,by decide +kernel⟩
theorem zgH {f:Addr} {fd:FuncData} (F:Fun K "_law_pool" "_law_pool" zco f fd) (F__law_mixed:FnP P w K mg base 1 "_law_mixed" ["_law_cell","_law_k"] zan) : FnOk P w K mg base CX0 2 f fd ["_law_cell"] zce:=by
 refine F.okJ zbC (fun vs H Q E h=>?_) (fun cdv A outer s H vs Q E hr h=>?_)
 ·obtain ⟨_,rfl,_⟩:=h
  rfl
 ·obtain ⟨c,rfl,q⟩:=h
  refine ⟨_,(zab (zar 1 zbC.nd (e_op zgd (e_op zbf (e_op zdh (e_op zdh (e_fn F__law_mixed hr (ac (e_v 0) (a1 e_i))) (e_fn F__law_mixed hr (ac (e_v 0) (a1 e_i)))) (e_fn F__law_mixed hr (ac (e_v 0) (a1 e_i)))) (e_op zdh e_i (e_op zdv e_i e_i))) (e_op zdv e_i e_i)))
   (zab (s_if (zaW o_gt (e_v 0) (e_op zdv e_i e_i)) (zag (zar 1 zbC.nd (e_op zgd (e_op zbf (e_op zc5 (e_v 0) e_i) (e_op zdh e_i (e_op zdv e_i e_i))) (e_op zdv e_i e_i)))) zaS)
   (zab (s_if (zaW o_eq (e_op zbf (e_v 0) e_i) e_i) (zag (zar 1 zbC.nd (e_op zgd e_i (e_op zbf (e_op zc5 (e_v 0) e_i) e_i)))) zaS)
   (zag (zau (zbl (ac (e_v 1) (ac (e_op zbu (e_op zbu (e_v 1) e_i) (e_op zbf (e_fn F__law_mixed hr (ac (e_v 0) (a1 e_i))) e_i)) (a1 (e_op zbu (e_op zbu (e_v 1) e_i) (e_fn F__law_mixed hr (ac (e_v 0) (a1 e_i))))))))))))),?_⟩
  refine ⟨_,rfl,c,30,rfl,by decide,by decide,fun r1 _ _=>⟨_,rfl,c,31,rfl,by decide,by decide,fun r2 h21 h22=>⟨_,_,rfl,rfl,.inr ⟨by omega,by omega⟩,_,rfl,c,32,rfl,by decide,by decide,fun r3 h31 h32=>⟨_,_,rfl,rfl,.inr ⟨by omega,by omega⟩,_,_,rfl,rfl,⟨by decide,by decide,by decide⟩,_,_,rfl,rfl,.inl ⟨by decide,by decide⟩,_,_,rfl,rfl,by show (0:Int) < 2 * 10 ^ (26:Int).toNat; decide,_,_,rfl,rfl,⟨by decide,by decide,by decide⟩,_,_,rfl,rfl,?_⟩⟩⟩⟩
  have last:∀ a:Int,tRet (tLst (zal (tVar 1) (zal (tOp (rI0 fun i j=>.int (i + j)) (tOp (rI0 fun i j=>.int (i + j)) (tVar 1) (tC (.int 1))) (tOp (rI (fun _ j=>0 < j) fun i j=>.int (i % j)) (zcG zan [] E0 (zal (tVar 0) (zal (tC (.int 33)) tNil))) (tC (.int 5))))
    (zal (tOp (rI0 fun i j=>.int (i + j)) (tOp (rI0 fun i j=>.int (i + j)) (tVar 1) (tC (.int 9))) (zcG zan [] E0 (zal (tVar 0) (zal (tC (.int 34)) tNil)))) tNil)))) { nx:=fun _ H'=>Q .non H',rt:=Q } [some (.int c),some (.int a)] H:=by
   intro a
   refine ⟨_,rfl,_,rfl,_,_,rfl,rfl,_,rfl,c,33,rfl,by decide,by decide,fun r4 _ _=>⟨_,_,rfl,rfl,pz,_,_,rfl,rfl,_,rfl,_,_,rfl,rfl,_,rfl,c,34,rfl,by decide,by decide,fun r5 _ _=>⟨_,_,rfl,rfl,by show 3 ≤ sizeLine; decide,fun p hp=>?_⟩⟩⟩
   exact q p _ _ _ _ ((Same.refl H).upd hp) hp zaa
  refine ⟨_,rfl,_,_,rfl,rfl,⟨by decide,by decide,by decide⟩,_,_,rfl,rfl,_,rfl,?_⟩
  have two:∀ a:Int,tSeq (tIfS (zhc (tOp rEq (tOp (rI (fun _ j=>0 < j) fun i j=>.int (i % j)) (tVar 0) (tC (.int 3))) (tC (.int 0)))) (tAsg (tOp (rI0 fun i j=>.int (i - j)) (tC (.int 0)) (tOp (rI (fun _ j=>0 < j) fun i j=>.int (i % j)) (tOp (rI CDiv fun i j=>.int (i / j)) (tVar 0) (tC (.int 3))) (tC (.int 2)))) (zaw 1)) zkk)
    (tRet (tLst (zal (tVar 1) (zal (tOp (rI0 fun i j=>.int (i + j)) (tOp (rI0 fun i j=>.int (i + j)) (tVar 1) (tC (.int 1))) (tOp (rI (fun _ j=>0 < j) fun i j=>.int (i % j)) (zcG zan [] E0 (zal (tVar 0) (zal (tC (.int 33)) tNil))) (tC (.int 5))))
    (zal (tOp (rI0 fun i j=>.int (i + j)) (tOp (rI0 fun i j=>.int (i + j)) (tVar 1) (tC (.int 9))) (zcG zan [] E0 (zal (tVar 0) (zal (tC (.int 34)) tNil)))) tNil))))) { nx:=fun _ H'=>Q .non H',rt:=Q } [some (.int c),some (.int a)] H:=by
   intro a
   refine ⟨_,rfl,_,_,rfl,rfl,pz,rfl,_,rfl,?_⟩
   refine ite2 (fun _=>?_) (fun _=>last a)
   exact ⟨_,rfl,_,_,rfl,rfl,⟨by decide,by decide⟩,_,_,rfl,rfl,pz,_,_,rfl,rfl,last _⟩
  refine ite2 (fun _=>?_) (fun _=>two _)
  exact ⟨_,rfl,_,_,rfl,rfl,⟨by decide,by decide⟩,_,_,rfl,rfl,⟨by decide,by decide,by decide⟩,_,_,rfl,rfl,.inl ⟨by decide,by decide⟩,_,_,rfl,rfl,by show (0:Int) < 2 * 10 ^ (26:Int).toNat; decide,_,_,rfl,rfl,⟨by decide,by decide,by decide⟩,_,_,rfl,rfl,two _⟩
def zba:Sp:=fun vs H Q _=>∃ (n:Int),vs = [.int n] ∧ Q (.bl true) H
theorem zfH:FnScope ["_law_found"] ["_law_found"] (zad zbW):=⟨rfl,rfl,rfl,by decide +kernel,rfl,by decide +kernel,by decide +kernel⟩
theorem zfl {f:Addr} {fd:FuncData} (F:Fun K "_law_whole" "_law_whole" zbW f fd) (B:Blts mg) : FnOk P w K mg base CX0 1 f fd ["_law_found"] zba:=by
 refine F.okJ zfH (fun vs H Q E h=>?_) (fun cdv A outer s H vs Q E hr h=>?_)
 ·obtain ⟨_,rfl,_⟩:=h
  rfl
 ·obtain ⟨n,rfl,k⟩:=h
  refine ⟨_,(zag (zau (zl5 (e_cb zgR B.isinstance PyProof.Rows.boot_isinstance (ac (e_v 0) (a1 (e_ty B.int PyProof.Rows.boot_int)))) (zha (zoO (e_cb zgR B.isinstance PyProof.Rows.boot_isinstance (ac (e_v 0) (a1 (e_ty B.bool PyProof.Rows.boot_bool))))))))),?_⟩
  refine ⟨_,rfl,_,_,_,_,rfl,.int _,zcu K "int", _,rfl,iteT ?_⟩
  exact ⟨_,rfl,_,_,_,_,rfl,.int _,(by kernel_rfl:PySem.W.kitOne K (.type "int") (.type "bool") = some false),_,rfl,k⟩
theorem ze5 {i:Int} (h0:0 ≤ i) (h1:i < 26) : atI (Str.ofString "abcdefghijklmnopqrstuvwxyz").cps.toList i = some (97 + i.toNat):=by
 have e:(Str.ofString "abcdefghijklmnopqrstuvwxyz").cps.toList = (List.range 26).map (97 + ·):=by decide +kernel
 obtain ⟨j,rfl⟩ : ∃ j:Nat,i = (j:Int):=⟨i.toNat,by omega⟩
 rw [e,Int.toNat_natCast]
 have hj:j < 26:=by omega
 exact za1 (by simp [hj])
theorem zhe:(Str.ofString "abcdefghijklmnopqrstuvwxyz").length = 26:=by decide +kernel
def zca:Sp:=fun vs H Q _=>∃ (c:Int) (n:Nat),vs = [.int c,.int (n:Int)] ∧ n ≤ 20 ∧ ∀ (p:Addr) (H':Hp) (ys:List Str),Same H H' → H p = none → H' p = some (.lst (ys.map V.str)) → ys.length = n → ys.Nodup → (∀ y ∈ ys,y.length ≤ 8) → Q (.ref p) H'
theorem zc4:FnScope ["_law_cell","_law_many","_law_letters","_law_word","_law_at_here","_law_first_here"] ["_law_cell","_law_many"] (zad zb0):=⟨rfl,rfl,rfl,by decide +kernel,rfl,by decide +kernel,by decide +kernel⟩
theorem zfT {f:Addr} {fd:FuncData} (F:Fun K "_law_words" "_law_words" zb0 f fd) (B:Blts mg) (FM:FnP P w K mg base 1 "_law_mixed" ["_law_cell","_law_k"] zan) : FnOk P w K mg base CX0 2 f fd ["_law_cell","_law_many"] zca:=by
 refine F.okJ zc4 (fun vs H Q E h=>?_) (fun cdv A outer s H vs Q E hr h=>?_)
 ·obtain ⟨_,_,rfl,_⟩:=h
  rfl
 ·obtain ⟨c,n,rfl,n20,k⟩:=h
  have nd:=zc4.nd
  have nd3:(["_law_k","_law_letters","_law_cell"] : List Str).Nodup:=by decide +kernel
  have nd5:(["_law_k","_law_word","_law_letters","_law_at_here","_law_first_here"] : List Str).Nodup:=by decide +kernel
  refine ⟨_,(zab (zar 2 nd e_s)
   (zab (zar 3 nd (zoj e_s (a1c (zaZ (Nc:=["_law_k","_law_letters","_law_cell"]) (js:=[none,some 2,some 0]) (g:=(zaw 0)) (tt:=tYes) (te:=(tOp rIxS (tVar 1) (tOp (rI (fun _ j=>0 < j) fun i j=>.int (i % j)) (zcG zan [] E0 (zal (tVar 2) (zal (tVar 0) tNil))) (tC (.int 26)))))
   (zaB rfl rfl rfl rfl (fun x c h=>by simp at h; rcases h with ⟨rfl,rfl⟩ | ⟨rfl,rfl⟩ <;> rfl) rfl rfl rfl) (zcY B.range (a1 (e_op zbu e_i (e_op zbf (e_v 0) e_i))))
   (fun pins C s3 H3 fp=>⟨(g_n 0 nd3),.inl ⟨rfl,rfl⟩,(e_ix zoi (e_v 1) (e_op zbf (e_fn FM hr (ac (e_v 2) (a1 (e_v 0)))) e_i))⟩)))))
   (zab (zar 4 nd (e_op zbf (e_fn FM hr (ac (e_v 0) (a1 e_i))) (e_cb zm8 B.len PySem.boot_len (a1 (e_v 3)))))
   (zab (zar 5 nd (e_fn FM hr (ac (e_v 0) (a1 e_i))))
   (zag (zau (zaZ (Nc:=["_law_k","_law_word","_law_letters","_law_at_here","_law_first_here"]) (js:=[none,some 3,some 2,some 4,some 5]) (g:=(zaw 0)) (tt:=tYes) (te:=(tOp (fun x y H Q=>∃ i j,x = .str i ∧ y = .str j ∧ i.length + j.length ≤ sizeLine ∧ Q (.str (i ++ j)) H) (tOp (fun x y H Q=>∃ i j,x = .str i ∧ y = .str j ∧ i.length + j.length ≤ sizeLine ∧ Q (.str (i ++ j)) H) (tSl rSlS (tVar 1) zcl (zeL (tVar 3))) (tOp rIxS (tVar 2) (tOp (rI (fun _ j=>0 < j) fun i j=>.int (i % j)) (tOp (rI0 fun i j=>.int (i + j)) (tVar 4) (tVar 0)) (tC (.int 26))))) (tSl rSlS (tVar 1) (zeL (tOp (rI0 fun i j=>.int (i + j)) (tVar 3) (tC (.int 1)))) zcl)))
   (zaB rfl rfl rfl rfl (fun x c h=>by simp at h; rcases h with ⟨rfl,rfl⟩ | ⟨rfl,rfl⟩ | ⟨rfl,rfl⟩ | ⟨rfl,rfl⟩ <;> rfl) rfl rfl rfl) (zcY B.range (a1 (e_v 1)))
   (fun pins C s3 H3 fp=>⟨(g_n 0 nd5),.inl ⟨rfl,rfl⟩,(e_op zlh (e_op zlh (zmT (e_v 1) (e_v 3)) (e_ix zoi (e_v 2) (e_op zbf (e_op zbu (e_v 4) (e_v 0)) e_i))) (zlW (e_v 1) (e_op zbu (e_v 3) e_i)))⟩)))))))),?_⟩
  have m1:=Int.emod_nonneg c (show (8:Int) ≠ 0 by decide)
  have m2:=Int.emod_lt_of_pos c (show (0:Int) < 8 by decide)
  have lts:∀ z:Int,(Str.ofString "abcdefghijklmnopqrstuvwxyz").length ≤ sizeLine:=fun _=>by rw [zhe]; decide
  obtain ⟨wl,ewl,hwl⟩ : ∃ wl:Nat,(1 + c % 8).toNat = wl ∧ 1 ≤ wl ∧ wl ≤ 8:=⟨_,rfl,by omega,by omega⟩
  refine ⟨rfl,_,rfl,_,_,rfl,rfl,pz,_,_,rfl,rfl,_,rfl,by omega,by omega,fun D hD=>?_⟩
  rw [ewl]
  refine zbM (n:=wl) (fun i σ H'=>∃ (o:Option V) (ys:List Str),σ = [o,some (.str (Str.ofString "abcdefghijklmnopqrstuvwxyz")),some (.int c)] ∧ Same H H' ∧ H' D = some (.lst (ys.map V.str)) ∧ ys.length = i ∧ ∀ y ∈ ys,y.cps.toList.length = 1) ⟨none,[],rfl,(Same.refl H).upd hD,zaa,rfl,fun y h=>nomatch h⟩ ?_ ?_
  ·rintro i σ H' hi ⟨o,ys,rfl,sm,hl,ly,one⟩
   refine ⟨_,rfl,_,rfl,_,rfl,c,_,rfl,by omega,by omega,fun r r0 r1=>⟨_,_,rfl,rfl,pz,_,_,_,rfl,rfl,lts 0,ze5 (Int.emod_nonneg _ (by decide)) (Int.emod_lt_of_pos _ (by decide)),_,hl,zae (by rw [List.length_map]; omega),_,ys ++ [_],rfl,sm.upd hD,by rw [zaa,List.map_append]; rfl,by rw [List.length_append,List.length_singleton]; omega,fun y hy=>?_⟩⟩
   rcases List.mem_append.mp hy with z | z
   ·exact one y z
   ·rw [List.mem_singleton.mp z]; rfl
  rintro σ H1 ⟨o,ys,rfl,s1,hl,ly,one⟩
  have tot:(ys.map (·.length)).sum = ys.length:=by
   clear hl ly
   induction ys with
   | nil=>rfl
   | cons y ys ih =>
    rw [List.map_cons,List.sum_cons,ih fun z hz=>one z (List.mem_cons_of_mem _ hz),List.length_cons]
    have:=one y List.mem_cons_self
    rw [str_len,this]; omega
  have wlen:(Txt.join "" ys).length = wl:=by
   rw [str_len,join_none,List.length_flatMap,show (ys.map fun y=>y.cps.toList.length) = ys.map (·.length) from List.map_congr_left fun y _=>(str_len y).symm,tot,ly]
  refine ⟨"", D,ys,rfl,rfl,SqL.of hl,by rw [tot,ly]; show wl + wl * 0 ≤ _; omega,?_⟩
  generalize Txt.join "" ys = wd at wlen
  refine ⟨_,rfl,c,19,rfl,by decide,by decide,fun r1 _ _=>⟨_,rfl,wd,rfl,by rw [wlen]; exact Nat.le_trans hwl.2 (by decide),_,_,rfl,rfl,by rw [wlen]; omega,?_⟩⟩
  obtain ⟨ap,eap,hap⟩:=zdy (r:=r1) (n:=wl) (by omega)
  dsimp only [zaw]
  rw [wlen,eap]
  refine ⟨_,rfl,c,20,rfl,by decide,by decide,fun fr _ _=>?_⟩
  refine ⟨_,rfl,_,rfl,by omega,by omega,fun D2 hD2=>?_⟩
  rw [Int.toNat_natCast]
  let wordL:Nat → List Nat:=fun i=>wd.cps.toList.take ap ++ [97 + ((fr + (0 + (i:Int))) % 26).toNat] ++ wd.cps.toList.drop (ap + 1)
  refine zbM (n:=n) (fun i σ H'=>∃ (o:Option V) (zs:List Str),σ = [o,some (.str wd),some (.str (Str.ofString "abcdefghijklmnopqrstuvwxyz")),some (.int (ap:Int)),some (.int fr)] ∧ Same H1 H' ∧ H' D2 = some (.lst (zs.map V.str)) ∧ zs.map (fun z=>z.cps.toList) = (List.range i).map wordL) ⟨none,[],rfl,(Same.refl H1).upd hD2,zaa,rfl⟩ ?_ ?_
  ·rintro i σ H' hi ⟨o,zs,rfl,sm,hl2,ez⟩
   have lz:zs.length = i:=by have:=congrArg List.length ez; rwa [List.length_map,List.length_map,List.length_range] at this
   have a1':ap ≤ wd.length:=by omega
   have a2':ap + 1 ≤ wd.length:=by omega
   have l1:(Txt.slice wd none (some (ap:Int))).length ≤ 8:=Nat.le_trans (Txt.slice_le _ _ _) (by omega)
   have l2:(Txt.slice wd (some ((ap + 1:Nat) : Int)) none).length ≤ 8:=Nat.le_trans (Txt.slice_le _ _ _) (by omega)
   have szl:∀ n,n ≤ 100 → n ≤ sizeLine:=fun n h=>Nat.le_trans h (by decide)
   refine ⟨_,rfl,_,rfl,ap,rfl,wd,rfl,szl _ (by omega),_,rfl,_,rfl,_,rfl,_,_,rfl,rfl,_,_,rfl,rfl,pz,_,_,_,rfl,rfl,lts 0,ze5 (Int.emod_nonneg _ (by decide)) (Int.emod_lt_of_pos _ (by decide)),_,_,rfl,rfl,?_,?_⟩
   ·exact szl _ (by show _ + 1 ≤ _; omega)
   refine ⟨_,rfl,_,rfl,_,_,rfl,rfl,(ap + 1:Nat),rfl,wd,rfl,szl _ (by omega),_,_,rfl,rfl,?_,?_⟩
   ·rw [str_len,zfo,List.length_append,← str_len]
    exact szl _ (by show _ + 1 + _ ≤ _; omega)
   refine ⟨_,hl2,zae (by rw [List.length_map]; omega),_,zs ++ [_],rfl,sm.upd hD2,by rw [zaa,List.map_append]; rfl,?_⟩
   rw [List.map_append,ez,List.range_succ,List.map_append]
   congr 1
   show [_] = [_]
   congr 1
   show (Txt.slice wd none (some (ap:Int)) ++ _ ++ Txt.slice wd (some ((ap + 1:Nat) : Int)) none:Str).cps.toList = _
   rw [zfo,zfo,zhU a1',zhW a2']
  rintro σ H2 ⟨o,zs,rfl,sm,hl2,ez⟩
  have lz:zs.length = n:=by have:=congrArg List.length ez; rwa [List.length_map,List.length_map,List.length_range] at this
  refine k D2 H2 zs (s1.trans sm) (s1.free hD2) hl2 lz ?_ fun z hz=>?_
  ·have nw:((List.range n).map wordL).Nodup:=by
    rw [List.Nodup,List.pairwise_map]
    refine List.Pairwise.imp_of_mem ?_ (List.nodup_range (n:=n))
    intro i j hi hj ne
    have hi':=List.mem_range.mp hi
    have hj':=List.mem_range.mp hj
    refine zmB (by rw [← str_len]; omega) fun e=>ne ?_
    have q1:=Int.emod_nonneg (fr + (0 + (i:Int))) (show (26:Int) ≠ 0 by decide)
    have q2:=Int.emod_nonneg (fr + (0 + (j:Int))) (show (26:Int) ≠ 0 by decide)
    omega
   rw [← ez] at nw
   exact (List.pairwise_map.mp nw).imp fun h e=>h (by rw [e])
  ·have:z.cps.toList ∈ (List.range n).map wordL:=by rw [← ez]; exact List.mem_map_of_mem hz
   obtain ⟨i,_,e⟩:=List.mem_map.mp this
   rw [str_len,← e]
   show (wd.cps.toList.take ap ++ [_] ++ wd.cps.toList.drop (ap + 1)).length ≤ 8
   rw [List.length_append,List.length_append,List.length_take,List.length_drop,← str_len]
   simp only [List.length_cons,List.length_nil]
   omega
end
theorem zdx {α β:Type} {R:α → β → Prop} : ∀ {xs:List α} {ys:List β} {i:Nat} {y:β},Paired R xs ys → ys[i]? = some y → ∃ x,xs[i]? = some x ∧ R x y
 | _,_,0,_,.cons r _,h=>by simp at h; exact ⟨_,rfl,h ▸ r⟩
 | _,_,i + 1,_,.cons _ t,h=>by simp at h; obtain ⟨x,a,b⟩:=zdx t h; exact ⟨x,by simpa using a,b⟩
section
variable {P:Program} {w:World} {K:PySem.W.Frag} {mg:Str → Option Value} {base:Heap}
def zbb:Sp:=fun vs H Q _=>∃ (l:Addr) (ys:List V) (ks:List (List Int)),vs = [.ref l] ∧ H l = some (.lst ys) ∧ Paired (RowAt H) ys ks ∧ (∀ k ∈ ks,k ≠ []) ∧ ks.length < 64 ∧
 ∀ (p:Addr) (H':Hp) (zs:List V) (ls:List (List Int)),Same H H' → H p = none → H' p = some (.lst zs) → Paired (RowAt H') zs ls → LinesOf ks ls → Q (.ref p) H'
theorem zc1:FnScope ["_law_rows","_law_told","_law_row"] ["_law_rows"] (zad zbP):=⟨rfl,rfl,rfl,by decide +kernel,rfl,by decide +kernel,by decide +kernel⟩
theorem zfZ {f:Addr} {fd:FuncData} (F:Fun K "_law_lines" "_law_lines" zbP f fd) (B:Blts mg) : FnOk P w K mg base CX0 1 f fd ["_law_rows"] zbb:=by
 refine F.okJ zc1 (fun vs H Q E h=>?_) (fun cdv A outer s H vs Q E hr h=>?_)
 ·obtain ⟨_,_,_,rfl,_⟩:=h
  rfl
 ·obtain ⟨l,ys,ks,rfl,hl,pr,ne,k64,k⟩:=h
  have nd:=zc1.nd
  refine ⟨_,(zab (zar 1 nd (zbl a0))
   (zab (zbd (zat (e_cb zmI B.sorted PyProof.Rows.boot_sorted (a1 (e_v 0)))) (g_n 2 nd)
    (zag (s_if (JW.jt (w_or (zaW o_eq (e_cb zcM B.len PySem.boot_len (a1 (e_v 1))) e_i) (zfy (zaW (zlS hr) (e_ix zaY (e_v 1) (e_un zej e_i)) (e_v 2))))) (zag (zdB (e_v 1) (e_v 2))) zaS)))
   (zag (zau (e_v 1))))),?_⟩
  refine ⟨Nat.zero_le _,fun b hb=>?_⟩
  have s0:Same H (upd H b (.lst [])):=(Same.refl H).upd hb
  have u0:upd H b (.lst []) b = some (.lst []):=zaa
  generalize upd H b (.lst []) = H0 at s0 u0 ⊢
  refine ⟨_,rfl,l,ys,ks,rfl,SqL.of (s0 _ _ hl),Paired.mapP pr fun _ _ z=>RowAt.same s0 z,ne,k64,fun D ys' ss hD pr' pm ord=>?_⟩
  have s1:Same H0 (upd H0 D (.lst ys')):=(Same.refl H0).upd hD
  have u1:upd H0 D (.lst ys') D = some (.lst ys'):=zaa
  have pr1:Paired (RowAt (upd H0 D (.lst ys'))) ys' ss:=Paired.mapP pr' fun _ _ z=>RowAt.same s1 z
  have ub:=s1 _ _ u0
  have s01:=s0.trans s1
  generalize upd H0 D (.lst ys') = H1 at s1 u1 pr1 ub s01 ⊢
  have ly:ys'.length = ss.length:=Paired.length pr1
  have ls64:ss.length < 64:=by rw [pm.length_eq]; exact k64
  have nbD:b ≠ D:=fun z=>by rw [z,hD] at u0; cases u0
  refine ⟨D,rfl,⟨ys',SqL.of u1⟩,zaA (K:=K) (a:=D) (xs:=ys') (fun i σ H'=>∃ (o:Option V) (zs:List V) (ls:List (List Int)),σ = [some (.ref l),some (.ref b),o] ∧ Same H H' ∧ (∀ c xs,H1 c = some (.tup xs) → H' c = some (.tup xs)) ∧ H' D = some (.lst ys') ∧ H' b = some (.lst zs) ∧ Paired (RowAt H') zs ls ∧ LinesOf (ss.take i) ls ∧ (i = 0 ∧ ls = [] ∨ ∃ last,ls.getLast? = some last ∧ 0 < i))
   ⟨none,[],[],rfl,s01,fun _ _ h=>h,u1,ub,.nil,⟨.nil,.nil,fun r=>by simp⟩,.inl ⟨rfl,rfl⟩⟩ (fun i σ H' _ ⟨_,_,_,_,_,_,h,_⟩=>SqL.of h) ?_ ?_⟩
  ·rintro i x σ H2 hx ⟨o,zs,ls,rfl,sm,tp,hD2,hb2,pz,L,last⟩
   obtain ⟨r,hr1,t,rfl,ht⟩:=zaj pr1 hx
   have hi:i < ss.length:=(List.getElem?_eq_some_iff.mp hr1).1
   have ht2:=tp _ _ ht
   have lz:zs.length = ls.length:=Paired.length pz
   have ll:ls.length ≤ i:=by
    have:=zax L.nd (m:=ss.take i) fun x hx=>(L.mem x).mp hx
    rw [List.length_take] at this
    omega
   have app:∀ (D':Ends),LinesOf (ss.take (i + 1)) (ls ++ [r]) → (∀ σ' H'',(∃ (o:Option V) (zs:List V) (ls:List (List Int)),σ' = [some (.ref l),some (.ref b),o] ∧ Same H H'' ∧ (∀ c xs,H1 c = some (.tup xs) → H'' c = some (.tup xs)) ∧ H'' D = some (.lst ys') ∧ H'' b = some (.lst zs) ∧ Paired (RowAt H'') zs ls ∧ LinesOf (ss.take (i + 1)) ls ∧ (i + 1 = 0 ∧ ls = [] ∨ ∃ last,ls.getLast? = some last ∧ 0 < i + 1)) → D'.nx σ' H'') →
     zeX (tBM K "list" zbG (tVar 1) (zal (tVar 2) tNil)) D' [some (.ref l),some (.ref b),some (.ref t)] H2:=by
    intro D' L' hN
    have nt:=zaJ hb2
    refine ⟨_,rfl,.inl ⟨rfl,_,SqL.of hb2⟩,_,rfl,b,zs,_,rfl,rfl,hb2,zae (by omega),hN _ _ ⟨_,zs ++ [.ref t],ls ++ [r],rfl,sm.upd hb,fun c xs h=>zao nt _ _ (tp _ _ h),by rw [zai nbD.symm]; exact hD2,zaa,?_,L',.inr ⟨r,by simp,by omega⟩⟩⟩
    exact zah (R:=RowAt (upd H2 b (.lst (zs ++ [.ref t])))) ⟨t,rfl,zao nt _ _ ht2⟩ (Paired.mapP pz fun _ _ ⟨u,e1,e2⟩=>⟨u,e1,zao nt _ _ e2⟩)
   refine ⟨_,rfl,b,zs,rfl,.inl (SqL.of hb2),rfl,_,rfl,?_⟩
   rcases last with ⟨rfl,rfl⟩ | ⟨last,hlast,ipos⟩
   ·have:zs = []:=List.length_eq_zero_iff.mp lz
    subst this
    refine znT rfl (iteT (app _ ?_ fun σ' H'' h=>h))
    exact ⟨List.pairwise_singleton ..,List.pairwise_singleton ..,fun x=>by rw [take_snoc hr1]; simp⟩
   ·have lpos:0 < ls.length:=List.length_pos_of_mem (List.mem_of_getLast? hlast)
    refine zmv (by rw [lz]; omega) ?_
    obtain ⟨ini,e⟩ : ∃ ini,ls = ini ++ [last]:=by rw [List.getLast?_eq_some_iff] at hlast; exact hlast
    have hli:ls[ls.length - 1]? = some last:=by rw [← List.getLast?_eq_getElem?]; exact hlast
    obtain ⟨v,hv,t',rfl,ht'⟩:=zdx pz hli
    refine ⟨_,rfl,_,rfl,b,zs,_,_,rfl,rfl,SqL.of hb2,ziG (by rw [lz]; exact hv) (by omega),_,rfl,_,_,RowAt.den ⟨t',rfl,ht'⟩,RowAt.den ⟨t,rfl,ht2⟩,zbw _,zbw _,_,rfl,?_⟩
    rw [zhf]
    by_cases z:last = r
    ·rw [decide_eq_true z]
     refine iteF ⟨_,zs,ls,rfl,sm,tp,hD2,hb2,pz,zk7 hr1 L (by rw [← z]; exact List.mem_of_getLast? hlast),.inr ⟨last,hlast,by omega⟩⟩
    ·rw [decide_eq_false z]
     exact iteT (app _ (zk8 ord hr1 L hlast z) fun σ' H'' h=>h)
  ·rintro σ H2 ⟨o,zs,ls,rfl,sm,tp,hD2,hb2,pz,L,last⟩
   rw [ly,List.take_length] at L
   exact ⟨_,rfl,k b H2 zs ls sm hb hb2 pz ⟨L.ord,L.nd,fun r=>by rw [L.mem,pm.mem_iff]⟩⟩
def zaP:Sp:=fun vs H Q _=>∃ (st:Stt) (m:Int),vs = [vO st.1,vO st.2,.int m] ∧ Q (.bl (inS m st)) H
theorem zeZ:FnScope ["_law_start","_law_end","_law_moment"] ["_law_start","_law_end","_law_moment"] (zad zbH):=⟨rfl,rfl,rfl,by decide +kernel,rfl,by decide +kernel,by decide +kernel⟩
theorem zeP {f:Addr} {fd:FuncData} (F:Fun K "_law_covers" "_law_covers" zbH f fd) : FnOk P w K mg base CX0 1 f fd ["_law_start","_law_end","_law_moment"] zaP:=by
 refine F.okJ zeZ (fun vs H Q E h=>?_) (fun cdv A outer s H vs Q E hr h=>?_)
 ·obtain ⟨_,_,rfl,_⟩:=h
  rfl
 ·obtain ⟨⟨a,b⟩,m,rfl,k⟩:=h
  refine ⟨_,(zag (zau (zl5 (e_or (zh9 (e_v 0)) (zha (zjQ o_le (e_v 0) (e_v 2)))) (zha (e_or (zh9 (e_v 1)) (zha (zjQ o_lt (e_v 2) (e_v 1)))))))),?_⟩
  have e1:∀ (a b:Option Int),inS m (a,b) = ((a.all fun x=>decide (x ≤ m)) && b.all fun y=>decide (m < y)):=fun a b=>by
   rw [Bool.eq_iff_iff,zaz,Bool.and_eq_true]
   cases a <;> cases b <;> simp
  rw [e1] at k
  cases a with
  | none =>
   refine ⟨_,rfl,_,rfl,iteT ⟨_,rfl,iteT ?_⟩⟩
   cases b with
   | none=>exact ⟨_,rfl,_,rfl,iteT k⟩
   | some y=>exact ⟨_,rfl,_,rfl,iteF ⟨_,rfl,_,rfl,_,_,rfl,rfl,k⟩⟩
  | some x =>
   refine ⟨_,rfl,_,rfl,iteF ⟨_,rfl,_,rfl,_,_,rfl,rfl,_,rfl,?_⟩⟩
   refine ite2 (fun c=>?_) (fun c=>?_)
   ·have c':decide (x ≤ m) = true:=c
    simp only [Option.all_some,c',Bool.true_and] at k
    cases b with
    | none=>exact ⟨_,rfl,_,rfl,iteT k⟩
    | some y=>exact ⟨_,rfl,_,rfl,iteF ⟨_,rfl,_,rfl,_,_,rfl,rfl,k⟩⟩
   ·have c':decide (x ≤ m) = false:=by simpa using c
    simp only [Option.all_some,c',Bool.false_and] at k
    exact k
def zaU (st:Stt) : Int:=match st.1 with
 | some x=>x
 | none=>match st.2 with
  | some y=>y - 1
  | none=>0
theorem zi8 {st:Stt} (h:okS st) : inS (zaU st) st = true:=by
 obtain ⟨a,b⟩:=st
 rw [zaz]
 cases a with
 | none =>
  cases b with
  | none=>exact ⟨(fun _ h=>nomatch h),(fun _ h=>nomatch h)⟩
  | some y=>exact ⟨(fun _ h=>nomatch h),fun z hz=>by cases hz; show y - 1 < y; omega⟩
 | some x=>exact ⟨fun z hz=>by cases hz; exact Int.le_refl _,fun y hy=>h x y rfl hy⟩
def zbj:Sp:=fun vs H Q _=>∃ (p:Addr) (st:Stt),vs = [.ref p] ∧ H p = some (.tup [vO st.1,vO st.2]) ∧ Q (.int (zaU st)) H
theorem zeK:FnScope ["_law_piece"] ["_law_piece"] (zad zbJ):=⟨rfl,rfl,rfl,by decide +kernel,rfl,by decide +kernel,by decide +kernel⟩
theorem zeY {f:Addr} {fd:FuncData} (F:Fun K "_law_within" "_law_within" zbJ f fd) : FnOk P w K mg base CX0 1 f fd ["_law_piece"] zbj:=by
 refine F.okJ zeK (fun vs H Q E h=>?_) (fun cdv A outer s H vs Q E hr h=>?_)
 ·obtain ⟨_,_,rfl,_⟩:=h
  rfl
 ·obtain ⟨p,⟨a,b⟩,rfl,hp,k⟩:=h
  refine ⟨_,(zab (s_if (zc8 (e_ix zbg (e_v 0) e_i)) (zag (zau (e_ix zbg (e_v 0) e_i))) zaS)
   (zab (s_if (zc8 (e_ix zbg (e_v 0) e_i)) (zag (zau (e_op zgd (e_ix zbg (e_v 0) e_i) e_i))) zaS)
   (zag (zau e_i)))),?_⟩
  refine ⟨_,rfl,p,_,0,_,rfl,rfl,SqT.of hp,rfl,_,rfl,?_⟩
  cases a with
  | some x=>exact iteT ⟨_,rfl,p,_,0,_,rfl,rfl,SqT.of hp,rfl,k⟩
  | none =>
   refine iteF ⟨_,rfl,p,_,1,_,rfl,rfl,SqT.of hp,rfl,_,rfl,?_⟩
   cases b with
   | some y=>exact iteT ⟨_,rfl,p,_,1,_,rfl,rfl,SqT.of hp,rfl,_,_,rfl,rfl,k⟩
   | none=>exact iteF k
end
theorem zhr (xs:List V) : cutV xs none (some (-1)) = xs.dropLast:=by
 unfold cutV
 have e1:HT.sIx xs.length 0 none = 0:=rfl
 have e2:HT.sIx xs.length xs.length (some (-1)) = xs.length - 1:=by
  show (if (-1:Int) < 0 then ((-1:Int) + (xs.length:Int)).toNat else min (-1:Int).toNat xs.length) = _
  rw [if_pos (by decide)]
  omega
 rw [e1,e2,List.drop_zero,Nat.sub_zero,List.dropLast_eq_take]
def zbo (fs:List Fact) : List Int:=fs.flatMap fun f=>f.2.1.toList ++ f.2.2.toList
theorem zcy {fs:List Fact} {i:Nat} {f:Fact} (h:fs[i]? = some f) : zbo (fs.take (i + 1)) = zbo (fs.take i) ++ (f.2.1.toList ++ f.2.2.toList):=by
 rw [take_snoc h]; unfold zbo; rw [List.flatMap_append]; simp
theorem zi6 (x:Int) (ns:List Int) : inV (.int x) (ns.map V.int) = decide (x ∈ ns):=by
 unfold inV
 induction ns with
 | nil=>simp
 | cons n ns ih =>
  rw [List.map_cons,List.any_cons,ih]
  have:eqV (.int n) (.int x) = (n == x):=rfl
  rw [this,Bool.eq_iff_iff,Bool.or_eq_true,beq_iff_eq,decide_eq_true_iff,decide_eq_true_iff,List.mem_cons]
  exact ⟨fun h=>h.imp (fun e=>e.symm) id,fun h=>h.imp (fun e=>e.symm) id⟩
theorem zgs (l:List Int) : (l.map V.int).all zfV = true:=by
 induction l with
 | nil=>rfl
 | cons b l ih=>rw [List.map_cons,List.all_cons,ih]; rfl
def Bef (p q:Stt) : Prop:=∃ x y,p.2 = some x ∧ q.1 = some y ∧ x ≤ y
structure Joins (ps zs:List Stt) : Prop where
 can:Can zs
 sp:∀ m,zac m zs = zac m ps
 last:(zs.getLast?).map (·.2) = (ps.getLast?).map (·.2)
 len:zs.length ≤ ps.length
theorem Joins.nil:Joins [] []:=⟨⟨(fun s h=>nomatch h),.nil⟩,fun m=>rfl,rfl,Nat.le_refl _⟩
theorem Joins.first {p:Stt} (h:okS p) : Joins [p] [p]:=⟨zmD h,fun m=>rfl,rfl,Nat.le_refl _⟩
theorem Joins.apart {ps zs:List Stt} {z p:Stt} (J:Joins ps (zs ++ [z])) (hp:okS p) {x y:Int} (hx:z.2 = some x) (hy:p.1 = some y) (lt:x < y) : Joins (ps ++ [p]) (zs ++ [z] ++ [p]):=by
 refine ⟨zht J.can hp fun q hq=>?_,fun m=>by rw [zay (l:=zs ++ [z]),zay (l:=ps),J.sp],by simp,by have:=J.len; simp at this ⊢; omega⟩
 rcases List.mem_append.mp hq with h | h
 ·obtain ⟨b,c,e1,e2,lt'⟩:=(List.pairwise_append.mp J.can.2).2.2 q h z (by simp)
  have:=J.can.1 z (by simp) c x e2 hx
  exact ⟨b,y,e1,hy,by omega⟩
 ·rw [List.mem_singleton.mp h]; exact ⟨x,y,hx,hy,lt⟩
theorem Joins.touch {ps zs:List Stt} {z p:Stt} (J:Joins ps (zs ++ [z])) (hp:okS p) {x:Int} (hx:z.2 = some x) (hy:p.1 = some x) : Joins (ps ++ [p]) (zs ++ [(z.1,p.2)]):=by
 have oz:=J.can.1 z (by simp)
 have ok:okS (z.1,p.2):=fun a b ha hb=>by
  have h1:=oz a x ha hx
  have h2:=hp x b hy hb
  omega
 refine ⟨zht (zkO J.can) ok fun q hq=>?_,fun m=>?_,by simp,by have:=J.len; simp at this ⊢; omega⟩
 ·exact (List.pairwise_append.mp J.can.2).2.2 q hq z (by simp)
 ·rw [zay,zay,← J.sp m,zay,zdt,zdt,zdt,Bool.or_assoc]
  congr 1
  obtain ⟨z1,z2⟩:=z
  obtain ⟨p1,p2⟩:=p
  have hx':z2 = some x:=hx
  have hy':p1 = some x:=hy
  subst hx' hy'
  rw [Bool.eq_iff_iff,Bool.or_eq_true,zaz,zaz,zaz]
  constructor
  ·rintro ⟨a1,a2⟩
   by_cases c:m < x
   ·exact .inl ⟨a1,fun b hb=>by cases hb; exact c⟩
   ·exact .inr ⟨fun a ha=>by cases ha; omega,a2⟩
  ·rintro (⟨a1,a2⟩ | ⟨a1,a2⟩)
   ·refine ⟨a1,fun b hb=>?_⟩
    have:=hp x b rfl hb
    have:=a2 x rfl
    omega
   ·refine ⟨fun a ha=>?_,a2⟩
    have:=oz a x ha rfl
    have:=a1 x rfl
    omega
def zaI (bs:List Int) : List Stt:=(List.range (bs.length + 1)).map fun k=>stt bs k k
theorem zc2 {α β:Type} {R:α → β → Prop} : ∀ {xs:List α} {x:α} {ys:List β} {y:β},Paired R (xs ++ [x]) (ys ++ [y]) → Paired R xs ys ∧ R x y
 | [],_,[],_,.cons r .nil=>⟨.nil,r⟩
 | [],_,_ :: ys,_,.cons _ t=>by have:=Paired.length t; simp at this
 | _ :: xs,_,[],_,.cons _ t=>by have:=Paired.length t; simp at this
 | _ :: xs,_,_ :: ys,_,.cons r t=>by obtain ⟨a,b⟩:=zc2 t; exact ⟨.cons r a,b⟩
section
variable {P:Program} {w:World} {K:PySem.W.Frag} {mg:Str → Option Value} {base:Heap}
def zbi:Sp:=fun vs H Q _=>∃ (l:Addr) (xs:List V) (fs:List Fact) (g:List Int),vs = [.ref l] ∧ H l = some (.lst xs) ∧ Paired (FactAt H) xs fs ∧ g.length < 64 ∧ (∀ x ∈ zbo fs,x ∈ g) ∧
 ∀ (p:Addr) (H':Hp) (bs:List Int),Same H H' → H p = none → H' p = some (.lst (bs.map V.int)) → Inc bs → (∀ x,x ∈ bs ↔ x ∈ zbo fs) → bs.length ≤ g.length → Q (.ref p) H'
theorem zcE:FnScope ["_law_facts_here","_law_told","_law_row","_law_start","_law_end","_law_bound"] ["_law_facts_here"] (zad zbF):=⟨rfl,rfl,rfl,by decide +kernel,rfl,by decide +kernel,by decide +kernel⟩
theorem zeU {f : Addr} {fd : FuncData} (F : Fun K "_law_bounds" "_law_bounds" zbF f fd) (B : Blts mg) : FnOk P w K mg base CX0 1 f fd ["_law_facts_here"] zbi := by
  refine F.okJ zcE (fun vs H Q E h=>?_) (fun cdv A outer s H vs Q E hr h=>?_)
  · obtain ⟨_,_,_,_,rfl,_⟩:=h
    rfl
  · obtain ⟨l,xs,fs,g,rfl,hl,pr,g64,sub,k⟩:=h
    have nd:=zcE.nd
    refine ⟨_,(zab (zar 1 nd (zbl a0))
      (zab (zbd (zat (e_v 0)) (zbv (zaf (g_n 2 nd) (zaf (g_n 3 nd) (zaf (g_n 4 nd) zaR))))
        (zag (zbd (zat (zbl (ac (e_v 3) (a1 (e_v 4))))) (g_n 5 nd)
          (zag (s_if (JW.jt (w_and (zc8 (e_v 5)) (zdD (ziw (e_v 5) (e_v 1))))) (zag (zdB (e_v 1) (e_v 5))) zaS)))))
      (zag (zau (e_cb zjt B.sorted PyProof.Rows.boot_sorted (a1 (e_v 1))))))),?_⟩
    refine ⟨Nat.zero_le _,fun b hb=>?_⟩
    have s0:Same H (upd H b (.lst [])):=(Same.refl H).upd hb
    have u0:upd H b (.lst []) b = some (.lst (([] : List Int).map V.int)):=zaa
    generalize upd H b (.lst []) = H0 at s0 u0 ⊢
    have lx:xs.length = fs.length:=Paired.length pr
    refine ⟨_,rfl,l,rfl,⟨xs,SqL.of (s0 _ _ hl)⟩,zaA (K:=K) (a:=l) (xs:=xs) (fun i σ H'=>∃ (o2 o3 o4 o5:Option V) (bs:List Int),σ = [some (.ref l),some (.ref b),o2,o3,o4,o5] ∧ Same H H' ∧ H' b = some (.lst (bs.map V.int)) ∧ bs.Nodup ∧ ∀ x,x ∈ bs ↔ x ∈ zbo (fs.take i))
      ⟨none,none,none,none,[],rfl,s0,u0,.nil,fun x=>by simp [zbo]⟩ (fun i σ H' _ ⟨_,_,_,_,_,_,sm,_⟩=>SqL.of (sm _ _ hl)) ?_ ?_⟩
    · rintro i x σ H2 hx ⟨o2,o3,o4,o5,bs,rfl,sm,h2,nb,mem⟩
      obtain ⟨fc,hf,t,p,rfl,ht,hp⟩:=zaj pr hx
      have sub2:∀ x ∈ zbo (fs.take (i + 1)),x ∈ g:=fun x hx=>sub x (by
        unfold zbo at hx ⊢
        obtain ⟨y,hy,hz⟩:=List.mem_flatMap.mp hx
        exact List.mem_flatMap.mpr ⟨y,List.mem_of_mem_take hy,hz⟩)
      refine ⟨t,_,rfl,SqT.of (sm _ _ ht),rfl,_,_,rfl,_,_,rfl,_,_,rfl,rfl,?_⟩
      refine ⟨_,rfl,_,rfl,by show 2 ≤ sizeLine; decide,fun D hD=>?_⟩
      have s3:Same H2 (upd H2 D (.lst [vO fc.2.1,vO fc.2.2])):=(Same.refl H2).upd hD
      have u3:upd H2 D (.lst [vO fc.2.1,vO fc.2.2]) D = some (.lst (([fc.2.1,fc.2.2] : List (Option Int)).map vO)):=zaa
      generalize upd H2 D (.lst [vO fc.2.1,vO fc.2.2]) = H3 at s3 u3 ⊢
      have nbD:D ≠ b:=fun z=>by rw [z,h2] at hD; cases hD
      refine ⟨D,rfl,⟨_,SqL.of u3⟩,zaA (K:=K) (a:=D) (xs:=([fc.2.1,fc.2.2] : List (Option Int)).map vO) (fun j σ H'=>∃ (o5:Option V) (bs:List Int),σ = [some (.ref l),some (.ref b),some (.ref p),some (vO fc.2.1),some (vO fc.2.2),o5] ∧ Same H H' ∧ H' D = some (.lst (([fc.2.1,fc.2.2] : List (Option Int)).map vO)) ∧ H' b = some (.lst (bs.map V.int)) ∧ bs.Nodup ∧ ∀ x,x ∈ bs ↔ x ∈ zbo (fs.take i) ∨ x ∈ ((([fc.2.1,fc.2.2] : List (Option Int)).take j).flatMap Option.toList))
        ⟨_,bs,rfl,sm.trans s3,u3,s3 _ _ h2,nb,fun x=>by rw [mem]; simp⟩ (fun j σ H' _ ⟨_,_,_,_,h,_⟩=>SqL.of h) ?_ ?_⟩
      · rintro j y σ H4 hy ⟨o5',bs',rfl,sm4,hD4,h4,nb',mem'⟩
        obtain ⟨oy,ey,rfl⟩:=zdW hy
        have hj:j < 2:=(List.getElem?_eq_some_iff.mp ey).1
        refine ⟨_,rfl,_,rfl,?_⟩
        cases oy with
        | none =>
          refine iteF (iteF ⟨_,bs',rfl,sm4,hD4,h4,nb',fun x=>?_⟩)
          rw [mem',take_snoc ey,List.flatMap_append]
          simp
        | some n =>
          refine iteT ⟨_,rfl,_,rfl,b,_,rfl,.inl (SqL.of h4),rfl,zgs _,_,rfl,?_⟩
          show if (!inV (.int n) (bs'.map V.int)) = true then _ else _
          rw [zi6]
          by_cases c:n ∈ bs'
          · rw [decide_eq_true c]
            refine iteF ⟨_,bs',rfl,sm4,hD4,h4,nb',fun x=>?_⟩
            rw [mem',take_snoc ey,List.flatMap_append,List.mem_append]
            constructor
            · rintro (h | h)
              · exact .inl h
              · exact .inr (.inl h)
            · rintro (h | h | h)
              · exact .inl h
              · exact .inr h
              · have:x = n:=by simpa using h
                rw [this]; exact (mem' n).mp c
          · rw [decide_eq_false c]
            have hn:n ∈ zbo (fs.take (i + 1)):=by
              rw [zcy hf]
              refine List.mem_append_right _ ?_
              match j,hj,ey with
              | 0, _, ey => have e : fc.2.1 = some n := by simpa using ey
                            rw [e]; simp
              | 1, _, ey => have e : fc.2.2 = some n := by simpa using ey
                            rw [e]; simp
            have lb:(bs' ++ [n]).length ≤ g.length:=by
              refine zax (List.nodup_append.mpr ⟨nb',List.pairwise_singleton ..,fun x hx y hy e=>c (by rw [List.mem_singleton.mp hy] at e; rw [← e]; exact hx)⟩) fun x hx=>?_
              rcases List.mem_append.mp hx with h | h
              · rcases (mem' x).mp h with h | h
                · exact sub2 x (by rw [zcy hf]; exact List.mem_append_left _ h)
                · refine sub2 x ?_
                  rw [zcy hf]
                  refine List.mem_append_right _ ?_
                  obtain ⟨o,ho,hx⟩:=List.mem_flatMap.mp h
                  have:=List.mem_of_mem_take ho
                  simp only [List.mem_cons,List.not_mem_nil,or_false] at this
                  rcases this with rfl | rfl
                  · exact List.mem_append_left _ hx
                  · exact List.mem_append_right _ hx
              · rw [List.mem_singleton.mp h]; exact sub2 n hn
            rw [List.length_append,List.length_singleton] at lb
            refine iteT ⟨_,rfl,.inl ⟨rfl,_,SqL.of h4⟩,_,rfl,b,_,_,rfl,rfl,h4,zae (by rw [List.length_map]; omega),_,bs' ++ [n],rfl,sm4.upd hb,by rw [zai nbD]; exact hD4,by rw [zaa,List.map_append]; rfl,List.nodup_append.mpr ⟨nb',List.pairwise_singleton ..,fun x hx y hy e=>c (by rw [List.mem_singleton.mp hy] at e; rw [← e]; exact hx)⟩,fun x=>?_⟩
            rw [List.mem_append,mem',take_snoc ey,List.flatMap_append,List.mem_append,or_assoc]
            simp
      · rintro σ H4 ⟨o5',bs',rfl,sm4,hD4,h4,nb',mem'⟩
        refine ⟨_,_,_,_,bs',rfl,sm4,h4,nb',fun x=>?_⟩
        rw [mem',zcy hf,List.mem_append]
        simp
    · rintro σ H2 ⟨o2,o3,o4,o5,bs,rfl,sm,h2,nb,mem⟩
      rw [lx,List.take_length] at mem
      have lb:bs.length ≤ g.length:=zax nb fun x hx=>sub x ((mem x).mp hx)
      refine ⟨_,rfl,b,bs,rfl,SqL.of h2,by omega,fun D ns' hD pm ord=>?_⟩
      exact k D _ ns' (sm.trans ((Same.refl H2).upd hD)) (sm.free hD) zaa (znr ord (pm.nodup_iff.mpr nb)) (fun x=>by rw [pm.mem_iff,mem]) (by rw [pm.length_eq]; exact lb)
def zbk:Sp:=fun vs H Q _=>∃ (l:Addr) (bs:List Int),vs = [.ref l] ∧ H l = some (.lst (bs.map V.int)) ∧ bs.length ≤ 100 ∧
 ∀ (p:Addr) (H':Hp) (xs:List V),Same H H' → H p = none → H' p = some (.lst xs) → StsAt H' xs (zaI bs) → Q (.ref p) H'
theorem zeE:FnScope ["_law_bounds_here"] ["_law_bounds_here"] (zad zbE):=⟨rfl,rfl,rfl,by decide +kernel,rfl,by decide +kernel,by decide +kernel⟩
theorem zeI {f : Addr} {fd : FuncData} (F : Fun K "_law_pieces" "_law_pieces" zbE f fd) (B : Blts mg) : FnOk P w K mg base CX0 1 f fd ["_law_bounds_here"] zbk := by
  refine F.okJ zeE (fun vs H Q E h=>?_) (fun cdv A outer s H vs Q E hr h=>?_)
  · obtain ⟨_,_,rfl,_⟩:=h
    rfl
  · obtain ⟨l,bs,rfl,hl,b100,k⟩:=h
    have nd:(["_law_one","_law_other"] : List Str).Nodup:=by decide +kernel
    refine ⟨_,(zag (zau (zaZ (Nc:=["_law_one","_law_other"]) (js:=[none,none]) (g:=(gTup K 2 (zbp (zaw 0) (zbp (zaw 1) gNil)))) (tt:=tYes) (te:=(tTup (zal (tVar 0) (zal (tVar 1) tNil))))
      (zaB rfl rfl rfl rfl (fun x c h=>by cases h) rfl rfl rfl) (zoD B.zip (ac (e_op zhT (zbl (a1 e_n)) (e_v 0)) (a1 (e_op zhT (e_v 0) (zbl (a1 e_n))))))
      (fun pins C s3 H3 fp=>⟨(zbv (zaf (g_n 0 nd) (zaf (g_n 1 nd) zaR))),.inl ⟨rfl,rfl⟩,(zbs (ac (e_v 0) (a1 (e_v 1))))⟩)))),?_⟩
    have szl:∀ n,n ≤ 200 → n ≤ sizeLine:=fun n h=>Nat.le_trans h (by decide)
    refine ⟨by show 1 ≤ sizeLine; decide,fun p1 h1=>?_⟩
    have s1:Same H (upd H p1 (.lst [.non])):=(Same.refl H).upd h1
    have u1:upd H p1 (.lst [.non]) p1 = some (.lst [.non]):=zaa
    generalize upd H p1 (.lst [.non]) = H1 at s1 u1 ⊢
    refine ⟨_,rfl,p1,l,_,_,rfl,rfl,u1,s1 _ _ hl,szl _ (by rw [List.length_map]; show 1 + _ ≤ _; omega),fun p2 h2=>?_⟩
    have s2:Same H1 (upd H1 p2 (.lst ([.non] ++ bs.map V.int))):=(Same.refl H1).upd h2
    have u2:upd H1 p2 (.lst ([.non] ++ bs.map V.int)) p2 = some (.lst ([.non] ++ bs.map V.int)):=zaa
    generalize upd H1 p2 (.lst ([.non] ++ bs.map V.int)) = H2 at s2 u2 ⊢
    refine ⟨_,rfl,by show 1 ≤ sizeLine; decide,fun p3 h3=>?_⟩
    have s3:Same H2 (upd H2 p3 (.lst [.non])):=(Same.refl H2).upd h3
    have u3:upd H2 p3 (.lst [.non]) p3 = some (.lst [.non]):=zaa
    generalize upd H2 p3 (.lst [.non]) = H3 at s3 u3 ⊢
    refine ⟨l,p3,_,_,rfl,rfl,(s1.trans (s2.trans s3)) _ _ hl,u3,szl _ (by rw [List.length_map]; show _ + 1 ≤ _; omega),fun p4 h4=>?_⟩
    have s4:Same H3 (upd H3 p4 (.lst (bs.map V.int ++ [.non]))):=(Same.refl H3).upd h4
    have u4:upd H3 p4 (.lst (bs.map V.int ++ [.non])) p4 = some (.lst (bs.map V.int ++ [.non])):=zaa
    generalize upd H3 p4 (.lst (bs.map V.int ++ [.non])) = H4 at s4 u4 ⊢
    have u24:=(s3.trans s4) _ _ u2
    have s04:=s1.trans (s2.trans (s3.trans s4))
    refine ⟨p2,p4,rfl,⟨_,SqL.of u24⟩,⟨_,SqL.of u4⟩,fun D hD=>?_⟩
    have len:(([.non] ++ bs.map V.int:List V)).length = bs.length + 1:=by simp
    have len2:((bs.map V.int ++ [.non] : List V)).length = bs.length + 1:=by simp
    refine zkh (K:=K) (a:=p2) (b:=p4) (xs:=[.non] ++ bs.map V.int) (ys:=bs.map V.int ++ [.non]) (by rw [len,len2]) (fun i σ H5=>∃ (o1 o2:Option V) (zs:List V),σ = [o1,o2] ∧ Same H4 H5 ∧ H5 D = some (.lst zs) ∧ StsAt H5 zs ((List.range i).map fun k=>stt bs k k))
      ⟨none,none,[],rfl,(Same.refl H4).upd hD,zaa,.nil⟩ (fun i σ H5 _ ⟨_,_,_,_,sm,_⟩=>⟨SqL.of (sm _ _ u24),SqL.of (sm _ _ u4)⟩) ?_ ?_
    · rintro i x y T' σ H5 hx hy ⟨o1,o2,zs,rfl,sm,h5,pz⟩ hT
      have hi:i < bs.length + 1:=by have:=(List.getElem?_eq_some_iff.mp hx).1; rw [len] at this; exact this
      have ex : x = vO (stt bs i i).1 := by
        unfold stt
        cases i with
        | zero => have : V.non = x := by simpa using hx
                  rw [← this]; rfl
        | succ i =>
          have h1:(bs.map V.int)[i]? = some x:=by simpa using hx
          rw [List.getElem?_map] at h1
          rw [if_neg (by omega)]
          show x = vO bs[i]?
          cases e:bs[i]? with
          | none=>rw [e] at h1; cases h1
          | some n=>rw [e] at h1; cases h1; rfl
      have ey:y = vO (stt bs i i).2:=by
        unfold stt
        by_cases c:i < bs.length
        · rw [List.getElem?_append_left (by rw [List.length_map]; exact c),List.getElem?_map] at hy
          show y = vO bs[i]?
          cases e:bs[i]? with
          | none=>rw [e] at hy; cases hy
          | some n=>rw [e] at hy; cases hy; rfl
        · have:i = bs.length:=by omega
          subst this
          have h1:V.non = y:=by simpa using hy
          show y = vO bs[bs.length]?
          rw [← h1]; simp; rfl
      have t1:Same H5 (upd H5 T' (.tup [x,y])):=(Same.refl H5).upd hT
      have v1:upd H5 T' (.tup [x,y]) T' = some (.tup [x,y]):=zaa
      generalize upd H5 T' (.tup [x,y]) = H6 at t1 v1 ⊢
      refine ⟨T',_,rfl,SqT.of v1,rfl,_,_,rfl,_,_,rfl,rfl,_,rfl,_,rfl,by show 2 ≤ sizeLine; decide,fun u hu=>?_⟩
      have t2:Same H6 (upd H6 u (.tup [x,y])):=(Same.refl H6).upd hu
      have v2:upd H6 u (.tup [x,y]) u = some (.tup [x,y]):=zaa
      generalize upd H6 u (.tup [x,y]) = H7 at t2 v2 ⊢
      have t12:=t1.trans t2
      have h7:=t12 _ _ h5
      have nt:=zaJ h7
      have lz:=Paired.length pz
      rw [List.length_map,List.length_range] at lz
      refine ⟨zs,h7,zae (by omega),_,_,zs ++ [.ref u],rfl,(sm.trans t12).upd hD,zaa,?_⟩
      rw [List.range_succ,List.map_append]
      exact zah (R:=fun v s=>∃ t,v = V.ref t ∧ (upd H7 D (.lst (zs ++ [.ref u]))) t = some (.tup [vO s.1,vO s.2])) ⟨u,rfl,zao nt _ _ (by rw [← ex,← ey]; exact v2)⟩ (Paired.mapP pz fun _ _ ⟨t,a1,a2⟩=>⟨t,a1,zao nt _ _ (t12 _ _ a2)⟩)
    · rintro σ H5 ⟨o1,o2,zs,rfl,sm,h5,pz⟩
      rw [len] at pz
      exact k D H5 zs (s04.trans sm) (s04.free hD) h5 pz
def zcn:Sp:=fun vs H Q _=>∃ (l:Addr) (xs:List V) (ps:List Stt),vs = [.ref l] ∧ H l = some (.lst xs) ∧ StsAt H xs ps ∧ (∀ p ∈ ps,okS p) ∧ ps.Pairwise Bef ∧ ps.length ≤ 100 ∧
 ∀ (p:Addr) (H':Hp) (zs:List Stt),Same H H' → H p = none → SpanAt H' p zs → Joins ps zs → Q (.ref p) H'
theorem zdI:FnScope ["_law_parts","_law_span_here","_law_start","_law_end"] ["_law_parts"] (zad zcj):=⟨rfl,rfl,rfl,by decide +kernel,rfl,by decide +kernel,by decide +kernel⟩
theorem zgC {f:Addr} {fd:FuncData} (F:Fun K "_law_span" "_law_span" zcj f fd) (B:Blts mg) : FnOk P w K mg base CX0 1 f fd ["_law_parts"] zcn:=by
 refine F.okJ zdI (fun vs H Q E h=>?_) (fun cdv A outer s H vs Q E hr h=>?_)
 ·obtain ⟨_,_,_,rfl,_⟩:=h
  rfl
 ·obtain ⟨l,xs,ps,rfl,hl,pr,oks,bef,p100,k⟩:=h
  have nd:=zdI.nd
  refine ⟨_,(zab (zar 1 nd (zbl a0))
   (zab (zbd (zat (e_v 0)) (zbv (zaf (g_n 2 nd) (zaf (g_n 3 nd) zaR)))
    (zag (s_if (JW.jt (w_and (zaW o_gt (e_cb zcM B.len PySem.boot_len (a1 (e_v 1))) e_i) (zdD (zaW o_eq (e_ix zbg (e_ix zaY (e_v 1) (e_un zej e_i)) e_i) (e_v 2))))) (zag (zar 1 nd (e_op zhT (zld (e_v 1) (e_un zej e_i)) (zbl (a1 (zbs (ac (e_ix zbg (e_ix zaY (e_v 1) (e_un zej e_i)) e_i) (a1 (e_v 3))))))))) (zag (zar 1 nd (e_op zhT (e_v 1) (zbl (a1 (zbs (ac (e_v 2) (a1 (e_v 3))))))))))))
   (zag (zau (e_v 1))))),?_⟩
  have szl:∀ n,n ≤ 200 → n ≤ sizeLine:=fun n h=>Nat.le_trans h (by decide)
  have lx:xs.length = ps.length:=Paired.length pr
  refine ⟨Nat.zero_le _,fun b hb=>?_⟩
  have s0:Same H (upd H b (.lst [])):=(Same.refl H).upd hb
  refine ⟨_,rfl,l,rfl,⟨xs,SqL.of (s0 _ _ hl)⟩,zaA (K:=K) (a:=l) (xs:=xs) (fun i σ H'=>∃ (b:Addr) (o2 o3:Option V) (zs:List Stt),σ = [some (.ref l),some (.ref b),o2,o3] ∧ H b = none ∧ Same H H' ∧ SpanAt H' b zs ∧ Joins (ps.take i) zs)
   ⟨b,none,none,[],rfl,hb,s0,⟨[],zaa,.nil⟩,Joins.nil⟩ (fun i σ H' _ ⟨_,_,_,_,_,_,sm,_⟩=>SqL.of (sm _ _ hl)) ?_ ?_⟩
  ·rintro i x σ H2 hx ⟨b,o2,o3,zs,rfl,hb',sm,⟨ys,h2,pz⟩,J⟩
   obtain ⟨p,hp,t,rfl,ht⟩:=zaj pr hx
   have hi:i < ps.length:=(List.getElem?_eq_some_iff.mp hp).1
   have okp:=oks p (List.mem_of_getElem? hp)
   have lz:ys.length = zs.length:=Paired.length pz
   have jl:=J.len
   rw [List.length_take] at jl
   refine ⟨t,_,rfl,SqT.of (sm _ _ ht),rfl,_,_,rfl,_,_,rfl,rfl,?_⟩
   have els:∀ D':Ends,Joins (ps.take (i + 1)) (zs ++ [p]) → (∀ σ' H'',(∃ (b:Addr) (o2 o3:Option V) (zs:List Stt),σ' = [some (.ref l),some (.ref b),o2,o3] ∧ H b = none ∧ Same H H'' ∧ SpanAt H'' b zs ∧ Joins (ps.take (i + 1)) zs) → D'.nx σ' H'') →
     tAsg (tOp rCat (tVar 1) (tLst (zal (tTup (zal (tVar 2) (zal (tVar 3) tNil))) tNil))) (zaw 1) D' [some (.ref l),some (.ref b),some (vO p.1),some (vO p.2)] H2:=by
    intro D' J' hN
    refine ⟨_,rfl,_,rfl,_,rfl,by show 2 ≤ sizeLine; decide,fun u hu=>?_⟩
    have t1:Same H2 (upd H2 u (.tup [vO p.1,vO p.2])):=(Same.refl H2).upd hu
    have v1:upd H2 u (.tup [vO p.1,vO p.2]) u = some (.tup [vO p.1,vO p.2]):=zaa
    generalize upd H2 u (.tup [vO p.1,vO p.2]) = H3 at t1 v1 ⊢
    refine ⟨by show 1 ≤ sizeLine; decide,fun w1 hw1=>?_⟩
    have t2:Same H3 (upd H3 w1 (.lst [.ref u])):=(Same.refl H3).upd hw1
    have v2:upd H3 w1 (.lst [.ref u]) w1 = some (.lst [.ref u]):=zaa
    generalize upd H3 w1 (.lst [.ref u]) = H4 at t2 v2 ⊢
    have t12:=t1.trans t2
    refine ⟨b,w1,ys,_,rfl,rfl,t12 _ _ h2,v2,szl _ (by show _ + 1 ≤ _; omega),fun c hc=>?_⟩
    have t3:Same H4 (upd H4 c (.lst (ys ++ [.ref u]))):=(Same.refl H4).upd hc
    have t13:=t12.trans t3
    exact hN _ _ ⟨c,_,_,zs ++ [p],rfl,(sm.trans t12).free hc,sm.trans t13,⟨ys ++ [.ref u],zaa,zah (R:=fun v s=>∃ t,v = V.ref t ∧ (upd H4 c (.lst (ys ++ [.ref u]))) t = some (.tup [vO s.1,vO s.2])) ⟨u,rfl,(t2.trans t3) _ _ v1⟩ (Paired.mapP pz fun _ _ ⟨t,a1,a2⟩=>⟨t,a1,t13 _ _ a2⟩)⟩,J'⟩
   refine ⟨_,rfl,b,ys,rfl,.inl (SqL.of h2),_,_,rfl,rfl,_,rfl,?_⟩
   rcases (show zs = [] ∨ ∃ zi z,zs = zi ++ [z] from by rcases List.eq_nil_or_concat zs with h | ⟨a,b,h⟩; exact .inl h; exact .inr ⟨a,b,by rw [h]; simp⟩) with rfl | ⟨zi,z,rfl⟩
   ·have:ys = []:=List.length_eq_zero_iff.mp lz
    subst this
    have tk:ps.take i = []:=by
     cases e:ps.take i with
     | nil=>rfl
     | cons q qs =>
      exfalso
      have:=J.last
      rw [e,List.getLast?_cons] at this
      cases this
    refine ite2 (fun c=>absurd c (by simp)) (fun _=>iteF (els _ ?_ fun σ' H'' h=>h))
    rw [take_snoc hp,tk]
    exact Joins.first okp
   ·refine ite2 (fun _=>?_) (fun c=>absurd (decide_eq_true (by rw [lz]; simp)) c)
    obtain ⟨q,hq⟩ : ∃ q,(ps.take i).getLast? = some q:=by
     cases e:(ps.take i).getLast? with
     | none =>
      have e':ps.take i = []:=List.getLast?_eq_none_iff.mp e
      have:=J.len
      rw [e'] at this
      simp at this
     | some q=>exact ⟨q,rfl⟩
    have zq:z.2 = q.2:=by
     have:=J.last
     rw [hq] at this
     simpa using this
    have bq:Bef q p:=by
     have hqm:=List.mem_of_getLast? hq
     obtain ⟨j,hj⟩:=List.getElem?_of_mem hqm
     have hj1:j < (ps.take i).length:=(List.getElem?_eq_some_iff.mp hj).1
     rw [List.length_take] at hj1
     rw [List.getElem?_take_of_lt (by omega)] at hj
     obtain ⟨a1,h1⟩:=List.getElem?_eq_some_iff.mp hj
     obtain ⟨a2,h2⟩:=List.getElem?_eq_some_iff.mp hp
     have:=(List.pairwise_iff_getElem.mp bef) j i a1 a2 (by omega)
     rwa [h1,h2] at this
    obtain ⟨xe,ye,e1,e2,le⟩:=bq
    have zl:(zi ++ [z])[(zi ++ [z]).length - 1]? = some z:=by simp
    obtain ⟨vz,hvz,tz,rfl,htz⟩:=zdx pz zl
    have ylast:atI ys (-1) = some (.ref tz):=ziG (by rw [lz]; exact hvz) (by rw [lz]; simp)
    have hz2:vO z.2 = .int xe:=by rw [zq,e1]; rfl
    have hp1:vO p.1 = .int ye:=by rw [e2]; rfl
    refine ⟨_,rfl,_,rfl,b,ys,_,_,rfl,rfl,SqL.of h2,ylast,tz,_,1,_,rfl,rfl,SqT.of htz,rfl,_,rfl,?_,_,rfl,?_⟩
    ·show scal (vO z.2) (vO p.1) = true
     rw [hz2,hp1]; rfl
    ·show if decide (vO z.2 = vO p.1) = true then _ else _
     rw [hz2,hp1]
     by_cases c:xe = ye
     ·refine znT c ?_
      obtain ⟨yi,yz,ey⟩ : ∃ yi yz,ys = yi ++ [yz]:=by
       rcases List.eq_nil_or_concat ys with h | ⟨yi,yz,h⟩
       ·rw [h] at lz; simp at lz
       ·exact ⟨yi,yz,by rw [h]; simp⟩
      have pzi:StsAt H2 yi zi:=by
       rw [ey] at pz
       exact (zc2 pz).1
      refine ⟨_,rfl,1,rfl,-1,rfl,b,ys,rfl,SqL.of h2,fun c1 hc1=>?_⟩
      rw [zhr]
      have t1:Same H2 (upd H2 c1 (.lst ys.dropLast)):=(Same.refl H2).upd hc1
      have v1:upd H2 c1 (.lst ys.dropLast) c1 = some (.lst yi):=by rw [zaa,ey,List.dropLast_concat]
      generalize upd H2 c1 (.lst ys.dropLast) = H3 at t1 v1 ⊢
      refine ⟨_,rfl,_,rfl,b,ys,_,_,rfl,rfl,SqL.of (t1 _ _ h2),ylast,tz,_,0,_,rfl,rfl,SqT.of (t1 _ _ htz),rfl,_,rfl,by show 2 ≤ sizeLine; decide,fun u hu=>?_⟩
      have t2:Same H3 (upd H3 u (.tup [vO z.1,vO p.2])):=(Same.refl H3).upd hu
      have v2:upd H3 u (.tup [vO z.1,vO p.2]) u = some (.tup [vO z.1,vO p.2]):=zaa
      generalize upd H3 u (.tup [vO z.1,vO p.2]) = H4 at t2 v2 ⊢
      refine ⟨by show 1 ≤ sizeLine; decide,fun w1 hw1=>?_⟩
      have t3:Same H4 (upd H4 w1 (.lst [.ref u])):=(Same.refl H4).upd hw1
      have v3:upd H4 w1 (.lst [.ref u]) w1 = some (.lst [.ref u]):=zaa
      generalize upd H4 w1 (.lst [.ref u]) = H5 at t3 v3 ⊢
      have t13:=t1.trans (t2.trans t3)
      have lyi:yi.length ≤ 100:=by rw [ey] at lz; simp at lz jl; omega
      refine ⟨c1,w1,yi,_,rfl,rfl,(t2.trans t3) _ _ v1,v3,szl _ (by show _ + 1 ≤ _; omega),fun d hd=>?_⟩
      have t4:Same H5 (upd H5 d (.lst (yi ++ [.ref u]))):=(Same.refl H5).upd hd
      have t14:=t13.trans t4
      refine ⟨d,_,_,zi ++ [(z.1,p.2)],rfl,(sm.trans t13).free hd,sm.trans t14,⟨yi ++ [.ref u],zaa,zah (R:=fun v s=>∃ t,v = V.ref t ∧ (upd H5 d (.lst (yi ++ [.ref u]))) t = some (.tup [vO s.1,vO s.2])) ⟨u,rfl,(t3.trans t4) _ _ v2⟩ (Paired.mapP pzi fun _ _ ⟨t,a1,a2⟩=>⟨t,a1,t14 _ _ a2⟩)⟩,?_⟩
      rw [take_snoc hp]
      exact J.touch okp (x:=xe) (by rw [zq,e1]) (by rw [e2,c])
     ·refine zmv c ?_
      rw [← hp1]
      refine els _ ?_ fun σ' H'' h=>h
      rw [take_snoc hp]
      exact J.apart okp (x:=xe) (y:=ye) (by rw [zq,e1]) e2 (by omega)
  ·rintro σ H2 ⟨b,o2,o3,zs,rfl,hb',sm,sp2,J⟩
   rw [lx,List.take_length] at J
   exact ⟨_,rfl,k b H2 zs sm hb' sp2 J⟩
end
def atF (m:Int) (fs:List Fact) : List (List Int):=(fs.filter fun f=>inS m f.2).map (·.1)
theorem zka {m:Int} {fs:List Fact} {i:Nat} {f:Fact} (h:fs[i]? = some f) : atF m (fs.take (i + 1)) = atF m (fs.take i) ++ (if inS m f.2 = true then [f.1] else []):=by
 unfold atF
 rw [take_snoc h,List.filter_append,List.map_append]
 by_cases c:inS m f.2 = true
 ·rw [if_pos c]; simp [c]
 ·rw [if_neg c]; simp [c]
theorem zj2 {m:Int} {fs:List Fact} {r:List Int} : r ∈ atF m fs ↔ zac m (told fs r) = true:=by
 unfold atF
 rw [List.mem_map,zam]
 constructor
 ·rintro ⟨f,hf,rfl⟩
  obtain ⟨h1,h2⟩:=List.mem_filter.mp hf
  exact ⟨f.2,zaF.mpr h1,h2⟩
 ·rintro ⟨s,hs,hm⟩
  exact ⟨(r,s),List.mem_filter.mpr ⟨zaF.mp hs,hm⟩,rfl⟩
theorem zdF {es:List Ent} {i:Nat} {e:Ent} (h:es[i]? = some e) : zak (es.take (i + 1)) = zak (es.take i) ++ e.2.map fun s=>(e.1,s):=by
 unfold zak
 rw [take_snoc h,List.flatMap_append]
 simp
theorem zeh (es:List Ent) (i:Nat) : (zak (es.take i)).length ≤ (zak es).length:=by
 have:zak es = zak (es.take i) ++ zak (es.drop i):=by
  unfold zak
  rw [← List.flatMap_append,List.take_append_drop]
 rw [this,List.length_append]
 omega
section
variable {P:Program} {w:World} {K:PySem.W.Frag} {mg:Str → Option Value} {base:Heap}
def zbS:Sp:=fun vs H Q _=>∃ (a:Addr) (es:List Ent),vs = [.ref a] ∧ SheetAt H a es ∧ (zak es).length ≤ 900 ∧
 ∀ (p:Addr) (H':Hp) (xs:List V),Same H H' → H p = none → H' p = some (.lst xs) → Paired (FactAt H') xs (zak es) → Q (.ref p) H'
theorem zc3:FnScope ["_law_sheet_here","_law_told","_law_row","_law_span_here"] ["_law_sheet_here"] (zad zbY):=⟨rfl,rfl,rfl,by decide +kernel,rfl,by decide +kernel,by decide +kernel⟩
theorem zfq {f:Addr} {fd:FuncData} (F:Fun K "_law_facts" "_law_facts" zbY f fd) : FnOk P w K mg base CX0 1 f fd ["_law_sheet_here"] zbS:=by
 refine F.okJ zc3 (fun vs H Q E h=>?_) (fun cdv A outer s H vs Q E hr h=>?_)
 ·obtain ⟨_,_,rfl,_⟩:=h
  rfl
 ·obtain ⟨a,es,rfl,⟨xs,ha,pe⟩,l900,k⟩:=h
  have nd:=zc3.nd
  have nd3:(["_law_start","_law_end","_law_row"] : List Str).Nodup:=by decide +kernel
  refine ⟨_,(zab (zar 1 nd (zbl a0))
   (zab (zbd (zat (e_v 0)) (zbv (zaf (g_n 2 nd) (zaf (g_n 3 nd) zaR)))
    (zag (zar 1 nd (e_op zhT (e_v 1) (zaZ (Nc:=["_law_start","_law_end","_law_row"]) (js:=[none,none,some 2]) (g:=(gTup K 2 (zbp (zaw 0) (zbp (zaw 1) gNil)))) (tt:=tYes) (te:=(tTup (zal (tVar 2) (zal (tVar 0) (zal (tVar 1) tNil)))))
   (zaB rfl rfl rfl rfl (fun x c h=>by simp at h; rcases h with ⟨rfl,rfl⟩ <;> rfl) rfl rfl rfl) (zat (e_v 3))
   (fun pins C s3 H3 fp=>⟨(zbv (zaf (g_n 0 nd3) (zaf (g_n 1 nd3) zaR))),.inl ⟨rfl,rfl⟩,(zbs (ac (e_v 2) (ac (e_v 0) (a1 (e_v 1)))))⟩))))))
   (zag (zau (e_v 1))))),?_⟩
  have szl:∀ n,n ≤ 1000 → n ≤ sizeLine:=fun n h=>Nat.le_of_lt (zae h)
  have lx:xs.length = es.length:=Paired.length pe
  refine ⟨Nat.zero_le _,fun b hb=>?_⟩
  have s0:Same H (upd H b (.lst [])):=(Same.refl H).upd hb
  refine ⟨_,rfl,a,rfl,⟨xs,SqL.of (s0 _ _ ha)⟩,zaA (K:=K) (a:=a) (xs:=xs) (fun i σ H'=>∃ (b:Addr) (o2 o3:Option V) (ys:List V),σ = [some (.ref a),some (.ref b),o2,o3] ∧ H b = none ∧ Same H H' ∧ H' b = some (.lst ys) ∧ Paired (FactAt H') ys (zak (es.take i)))
   ⟨b,none,none,[],rfl,hb,s0,zaa,.nil⟩ (fun i σ H' _ ⟨_,_,_,_,_,_,sm,_⟩=>SqL.of (sm _ _ ha)) ?_ ?_⟩
  ·rintro i x σ H2 hx ⟨b,o2,o3,ys,rfl,hb',sm,h2,pr⟩
   obtain ⟨e,he,t,p,q,rfl,ht,hp,zs,hq,pz⟩:=zaj pe hx
   have lz:zs.length = e.2.length:=Paired.length pz
   have ly:ys.length = (zak (es.take i)).length:=Paired.length pr
   have lt:=zeh es (i + 1)
   rw [zdF he,List.length_append,List.length_map] at lt
   refine ⟨t,_,rfl,SqT.of (sm _ _ ht),rfl,_,_,rfl,_,_,rfl,rfl,?_⟩
   refine ⟨_,rfl,_,rfl,q,rfl,⟨zs,SqL.of (sm _ _ hq)⟩,fun D hD=>?_⟩
   refine zaC (K:=K) (a:=q) (xs:=zs) (fun j _ σ H4=>∃ (o1 o2:Option V) (us:List V),σ = [o1,o2,some (.ref p)] ∧ Same H2 H4 ∧ H4 D = some (.lst us) ∧ Paired (FactAt H4) us ((e.2.take j).map fun s=>(e.1,s)))
    ⟨none,none,[],rfl,(Same.refl H2).upd hD,zaa,.nil⟩ (fun j _ σ H4 _ ⟨_,_,_,_,sm4,_⟩=>SqL.of (sm4 _ _ (sm _ _ hq))) ?_ ?_
   ·rintro j y _ σ H4 hy ⟨o1,o2,us,rfl,sm4,h4,pu⟩
    obtain ⟨st,hs,u,rfl,hu⟩:=zaj pz hy
    refine ⟨u,_,rfl,SqT.of (sm4 _ _ (sm _ _ hu)),rfl,_,_,rfl,_,_,rfl,rfl,?_⟩
    refine ⟨_,rfl,_,rfl,_,rfl,by show 3 ≤ sizeLine; decide,fun v hv=>?_⟩
    have s5:Same H4 (upd H4 v (.tup [.ref p,vO st.1,vO st.2])):=(Same.refl H4).upd hv
    have u5:upd H4 v (.tup [.ref p,vO st.1,vO st.2]) v = some (.tup [.ref p,vO st.1,vO st.2]):=zaa
    generalize upd H4 v (.tup [.ref p,vO st.1,vO st.2]) = H5 at s5 u5 ⊢
    have h5:=s5 _ _ h4
    have nt:=zaJ h5
    have lu:us.length = j:=by rw [Paired.length pu,List.length_map,List.length_take]; have:=(List.getElem?_eq_some_iff.mp hs).1; omega
    refine ⟨us,h5,zae (by have:=(List.getElem?_eq_some_iff.mp hs).1; omega),[],_,_,us ++ [.ref v],rfl,(sm4.trans s5).upd hD,zaa,?_⟩
    rw [take_snoc hs,List.map_append]
    exact zah (R:=FactAt (upd H5 D (.lst (us ++ [.ref v])))) ⟨v,p,rfl,zao nt _ _ u5,zao nt _ _ (s5 _ _ (sm4 _ _ (sm _ _ hp)))⟩ (Paired.mapP pu fun _ _ ⟨t,p,a1,a2,a3⟩=>⟨t,p,a1,zao nt _ _ (s5 _ _ a2),zao nt _ _ (s5 _ _ a3)⟩)
   ·rintro _ σ H4 ⟨o1,o2,us,rfl,sm4,h4,pu⟩
    rw [lz,List.take_length] at pu
    have lu:us.length = e.2.length:=by rw [Paired.length pu,List.length_map]
    refine ⟨b,D,ys,us,rfl,rfl,sm4 _ _ h2,h4,szl _ (by omega),fun c hc=>?_⟩
    have s5:Same H4 (upd H4 c (.lst (ys ++ us))):=(Same.refl H4).upd hc
    refine ⟨c,_,_,ys ++ us,rfl,(sm.trans sm4).free hc,sm.trans (sm4.trans s5),zaa,?_⟩
    rw [zdF he]
    exact zct (zaH (sm4.trans s5) pr) (zaH s5 pu)
  ·rintro σ H2 ⟨b,o2,o3,ys,rfl,hb',sm,h2,pr⟩
   rw [lx,List.take_length] at pr
   exact ⟨_,rfl,k b H2 ys sm hb' h2 pr⟩
def zdq:Sp:=fun vs H Q _=>∃ (l:Addr) (m:Int) (xs:List V) (fs:List Fact),vs = [.ref l,.int m] ∧ H l = some (.lst xs) ∧ Paired (FactAt H) xs fs ∧ (∀ f ∈ fs,f.1 ≠ []) ∧ (atF m fs).length < 64 ∧
 ∀ (p:Addr) (H':Hp) (zs:List V) (ls:List (List Int)),Same H H' → H p = none → H' p = some (.lst zs) → Paired (RowAt H') zs ls → LinesOf (atF m fs) ls → Q (.ref p) H'
theorem zhS:FnScope ["_law_facts_here","_law_moment"] ["_law_facts_here","_law_moment"] (zad zdm):=⟨rfl,rfl,rfl,by decide +kernel,rfl,by decide +kernel,by decide +kernel⟩
theorem zia {f:Addr} {fd:FuncData} (F:Fun K "_law_at" "_law_at" zdm f fd) (F__law_lines:FnP P w K mg base 1 "_law_lines" ["_law_rows"] zbb) (F__law_covers:FnP P w K mg base 1 "_law_covers" ["_law_start","_law_end","_law_moment"] zaP) : FnOk P w K mg base CX0 2 f fd ["_law_facts_here","_law_moment"] zdq:=by
 refine F.okJ zhS (fun vs H Q E h=>?_) (fun cdv A outer s H vs Q E hr h=>?_)
 ·obtain ⟨_,_,_,_,rfl,_⟩:=h
  rfl
 ·obtain ⟨l,m,xs,fs,rfl,hl,pr,ne,l64,k⟩:=h
  have nd:(["_law_row","_law_start","_law_end","_law_moment"] : List Str).Nodup:=by decide +kernel
  refine ⟨_,(zag (zau (e_fn F__law_lines hr (a1c (zaZ (Nc:=["_law_row","_law_start","_law_end","_law_moment"]) (js:=[none,none,none,some 1]) (g:=(gTup K 3 (zbp (zaw 0) (zbp (zaw 1) (zbp (zaw 2) gNil))))) (tt:=(tB (zcG zaP [] E0 (zal (tVar 1) (zal (tVar 2) (zal (tVar 3) tNil)))))) (te:=(tVar 0))
   (zaB rfl rfl rfl rfl (fun x c h=>by simp at h; rcases h with ⟨rfl,rfl⟩ <;> rfl) rfl rfl rfl) (zat (e_v 0))
   (fun pins C s3 H3 fp=>⟨(zbv (zaf (g_n 0 nd) (zaf (g_n 1 nd) (zaf (g_n 2 nd) zaR)))),.inr ⟨_,rfl,(zcz (e_fn F__law_covers hr (ac (e_v 1) (ac (e_v 2) (a1 (e_v 3))))))⟩,(e_v 0)⟩)))))),?_⟩
  have lx:xs.length = fs.length:=Paired.length pr
  have lf:∀ i,(atF m (fs.take i)).length ≤ (atF m fs).length:=fun i=>by
   have:atF m fs = atF m (fs.take i) ++ atF m (fs.drop i):=by unfold atF; rw [← List.map_append,← List.filter_append,List.take_append_drop]
   rw [this,List.length_append]; omega
  refine ⟨_,rfl,l,rfl,⟨xs,SqL.of hl⟩,fun D hD=>?_⟩
  refine zaC (K:=K) (a:=l) (xs:=xs) (fun j _ σ H4=>∃ (o0 o1 o2:Option V) (us:List V),σ = [o0,o1,o2,some (.int m)] ∧ Same H H4 ∧ H4 D = some (.lst us) ∧ Paired (RowAt H4) us (atF m (fs.take j)))
   ⟨none,none,none,[],rfl,(Same.refl H).upd hD,zaa,.nil⟩ (fun j _ σ H4 _ ⟨_,_,_,_,_,sm4,_⟩=>SqL.of (sm4 _ _ hl)) ?_ ?_
  ·rintro j y _ σ H4 hy ⟨o0,o1,o2,us,rfl,sm,h4,pu⟩
   obtain ⟨fc,hf,t,p,rfl,ht,hp⟩:=zaj pr hy
   refine ⟨t,_,rfl,SqT.of (sm _ _ ht),rfl,_,_,rfl,_,_,rfl,_,_,rfl,rfl,?_⟩
   refine ⟨_,rfl,_,rfl,_,rfl,fc.2,m,rfl,_,rfl,?_⟩
   have e:=zka (m:=m) hf
   cases c:inS m fc.2 with
   | false =>
    rw [c,if_neg (by decide),List.append_nil] at e
    exact iteF ⟨[],_,_,_,us,rfl,sm,h4,by rw [e]; exact pu⟩
   | true =>
    rw [c,if_pos rfl] at e
    have nt:=zaJ h4
    have lu:us.length = (atF m (fs.take j)).length:=Paired.length pu
    have:=lf j
    refine iteT ⟨_,rfl,us,h4,zae (by omega),[],_,_,_,us ++ [.ref p],rfl,sm.upd hD,zaa,?_⟩
    rw [e]
    exact zah (R:=RowAt (upd H4 D (.lst (us ++ [.ref p])))) ⟨p,rfl,zao nt _ _ (sm _ _ hp)⟩ (Paired.mapP pu fun _ _ ⟨t,a1,a2⟩=>⟨t,a1,zao nt _ _ a2⟩)
  ·rintro _ σ H4 ⟨o0,o1,o2,us,rfl,sm,h4,pu⟩
   rw [lx,List.take_length] at pu
   exact ⟨D,us,atF m fs,rfl,h4,pu,fun r hr=>by obtain ⟨f,hf,rfl⟩:=List.mem_map.mp hr; exact ne f (List.mem_filter.mp hf).1,l64,fun p H' zs ls s' hp' h' pz L=>k p H' zs ls (sm.trans s') (sm.free hp') h' pz L⟩
end
theorem zjs {bs:List Int} (inc:Inc bs) {st:Stt} (h1:∀ x,st.1 = some x → x ∈ bs) (h2:∀ x,st.2 = some x → x ∈ bs) {m m':Int} (e:zav bs m = zav bs m') : inS m st = inS m' st:=by
 have key:∀ x ∈ bs,(x ≤ m ↔ x ≤ m'):=fun x hx=>by
  obtain ⟨i,hi⟩:=List.getElem?_of_mem hx
  rw [zbm inc i x hi,zbm inc i x hi,e]
 rw [Bool.eq_iff_iff,zaz,zaz]
 constructor
 ·rintro ⟨a,b⟩
  exact ⟨fun x hx=>(key x (h1 x hx)).mp (a x hx),fun x hx=>by have:=key x (h2 x hx); have:=b x hx; omega⟩
 ·rintro ⟨a,b⟩
  exact ⟨fun x hx=>(key x (h1 x hx)).mpr (a x hx),fun x hx=>by have:=key x (h2 x hx); have:=b x hx; omega⟩
theorem zef {fs:List Fact} {x:Int} : x ∈ zbo fs ↔ ∃ f ∈ fs,f.2.1 = some x ∨ f.2.2 = some x:=by
 unfold zbo
 simp only [List.mem_flatMap,List.mem_append,Option.mem_toList]
theorem zfb {bs:List Int} (inc:Inc bs) {fs:List Fact} (h:∀ x ∈ zbo fs,x ∈ bs) (r:List Int) {m m':Int} (e:zav bs m = zav bs m') : zac m (told fs r) = zac m' (told fs r):=by
 have one:∀ {m m':Int},zav bs m = zav bs m' → zac m (told fs r) = true → zac m' (told fs r) = true:=fun {m m'} e z=>by
  obtain ⟨s,hs,hm⟩:=zam.mp z
  have hf:=zaF.mp hs
  refine zam.mpr ⟨s,hs,?_⟩
  rw [← zjs inc (fun x hx=>h x (zef.mpr ⟨_,hf,.inl hx⟩)) (fun x hx=>h x (zef.mpr ⟨_,hf,.inr hx⟩)) e]
  exact hm
 rw [Bool.eq_iff_iff]
 exact ⟨one e,one e.symm⟩
theorem len1 (o:Option Int) : o.toList.length ≤ 1:=by cases o <;> simp
theorem zb9 (bs:List Int) : (zaI bs).length = bs.length + 1:=by unfold zaI; rw [List.length_map,List.length_range]
theorem zcI {bs:List Int} {p:Stt} : p ∈ zaI bs ↔ ∃ k,k ≤ bs.length ∧ p = stt bs k k:=by
 unfold zaI
 rw [List.mem_map]
 exact ⟨fun ⟨k,a,b⟩=>⟨k,by have:=List.mem_range.mp a; omega,b.symm⟩,fun ⟨k,a,b⟩=>⟨k,List.mem_range.mpr (by omega),b.symm⟩⟩
theorem zdE {bs:List Int} (inc:Inc bs) {k:Nat} (hk:k ≤ bs.length) : zav bs (zaU (stt bs k k)) = k:=by
 have:=(zel inc hk _).mp (zi8 (ziA inc (Nat.le_refl k)))
 omega
def litP (φ:Int → Bool) (ps:List Stt) : List Stt:=ps.filter fun p=>φ (zaU p)
theorem zmq {bs:List Int} (inc:Inc bs) {φ:Int → Bool} (h:∀ m m',zav bs m = zav bs m' → φ m = φ m') (m:Int) : zac m (litP φ (zaI bs)) = φ m:=by
 have pl:=zbc bs m
 rw [Bool.eq_iff_iff,zam]
 constructor
 ·rintro ⟨s,hs,hm⟩
  obtain ⟨h1,h2⟩:=List.mem_filter.mp hs
  obtain ⟨k,hk,rfl⟩:=zcI.mp h1
  have:=(zel inc hk m).mp hm
  rw [← h2]
  exact h _ _ (by rw [zdE inc hk]; omega)
 ·intro z
  refine ⟨stt bs (zav bs m) (zav bs m),List.mem_filter.mpr ⟨zcI.mpr ⟨_,pl,rfl⟩,?_⟩,(zel inc pl m).mpr ⟨Nat.le_refl _,Nat.le_refl _⟩⟩
  rw [← z]
  exact h _ _ (zdE inc pl)
theorem zij {bs:List Int} (inc:Inc bs) : (zaI bs).Pairwise Bef:=by
 unfold zaI
 rw [List.pairwise_map]
 refine List.Pairwise.imp_of_mem ?_ List.pairwise_lt_range
 intro i j hi hj lt
 have hj':=List.mem_range.mp hj
 have a1:i < bs.length:=by omega
 have a2:j - 1 < bs.length:=by omega
 refine ⟨bs[i],bs[j - 1],List.getElem?_eq_getElem a1,?_,?_⟩
 ·show (if j = 0 then none else bs[j - 1]?) = _
  rw [if_neg (by omega)]
  exact List.getElem?_eq_getElem a2
 ·by_cases c:i = j - 1
  ·subst c; exact Int.le_refl _
  ·exact Int.le_of_lt (List.pairwise_iff_getElem.mp inc i (j - 1) a1 a2 (by omega))
theorem zjM {bs:List Int} (inc:Inc bs) : ∀ p ∈ zaI bs,okS p:=fun p hp=>by
 obtain ⟨k,_,rfl⟩:=zcI.mp hp
 exact ziA inc (Nat.le_refl k)
theorem zkN {φ:List Int → Int → Bool} {es:List Ent} {ks ls:List (List Int)} (L:LinesOf ks ls) (em:es.map (·.1) = ls) (can:∀ e ∈ es,Can e.2) (sp:∀ e ∈ es,∀ m,zac m e.2 = φ e.1 m) (all:∀ r m,φ r m = true → r ∈ ks) (non:∀ r ∈ ks,∃ m,φ r m = true) : ShB φ es :=
 ⟨by rw [em]; exact L.ord,by rw [em]; exact L.nd,can,sp,fun r m h=>by rw [em]; exact (L.mem r).mpr (all r m h),fun e he=>non _ ((L.mem _).mp (by rw [← em]; exact List.mem_map_of_mem he))⟩
section
variable {P:Program} {w:World} {K:PySem.W.Frag} {mg:Str → Option Value} {base:Heap}
def zbV:Sp:=fun vs H Q _=>∃ (l:Addr) (xs:List V) (fs:List Fact),vs = [.ref l] ∧ H l = some (.lst xs) ∧ Paired (FactAt H) xs fs ∧ (∀ f ∈ fs,f.1 ≠ [] ∧ okS f.2) ∧ fs.length ≤ 20 ∧
 ∀ (p:Addr) (H':Hp) (es:List Ent),Same H H' → H p = none → SheetAt H' p es → ShB (fun r m=>zac m (told fs r)) es → Q (.ref p) H'
theorem zaO:FnScope ["_law_facts_here","_law_told","_law_parts","_law_row","_law_some","_law_piece","_law_moment"] ["_law_facts_here"] (zad zbU):=⟨rfl,rfl,rfl,by decide +kernel,rfl,by decide +kernel,by decide +kernel⟩
theorem zf1 {f:Addr} {fd:FuncData} (F:Fun K "_law_sheet" "_law_sheet" zbU f fd) (B:Blts mg) (F__law_pieces:FnP P w K mg base 1 "_law_pieces" ["_law_bounds_here"] zbk) (F__law_bounds:FnP P w K mg base 1 "_law_bounds" ["_law_facts_here"] zbi) (F__law_lines:FnP P w K mg base 1 "_law_lines" ["_law_rows"] zbb) (F__law_within:FnP P w K mg base 1 "_law_within" ["_law_piece"] zbj) (F__law_covers:FnP P w K mg base 1 "_law_covers" ["_law_start","_law_end","_law_moment"] zaP) (F__law_span:FnP P w K mg base 1 "_law_span" ["_law_parts"] zcn) : FnOk P w K mg base CX0 2 f fd ["_law_facts_here"] zbV:=by
 refine F.okJ zaO (fun vs H Q E h=>?_) (fun cdv A outer s H vs Q E hr h=>?_)
 ·obtain ⟨_,_,_,rfl,_⟩:=h
  rfl
 ·obtain ⟨l,xs,fs,rfl,hl,pr,good,l20,k⟩:=h
  have nd1:(["_law_fact_here"] : List Str).Nodup:=by decide +kernel
  have nd5:(["_law_one","_law_start","_law_end","_law_row","_law_moment"] : List Str).Nodup:=by decide +kernel
  refine ⟨_,(zab (zar 1 zaO.nd (zbl a0))
   (zab (zar 2 zaO.nd (e_fn F__law_pieces hr (a1 (e_fn F__law_bounds hr (a1 (e_v 0))))))
   (zab (zbd (zat (e_fn F__law_lines hr (a1c (zaZ (Nc:=["_law_fact_here"]) (js:=[none]) (g:=(zaw 0)) (tt:=tYes) (te:=(tOp (rIxT K) (tVar 0) (tC (.int 0))))
   (zaB rfl rfl rfl rfl (fun x c h=>by cases h) rfl rfl rfl) (zat (e_v 0))
   (fun pins C s3 H3 fp=>⟨(g_n 0 nd1),.inl ⟨rfl,rfl⟩,(e_ix zbg (e_v 0) e_i)⟩))))) (g_n 3 zaO.nd)
    (zab (zar 4 zaO.nd (zbl a0))
    (zab (zbd (zat (e_v 2)) (g_n 5 zaO.nd)
     (zab (zar 6 zaO.nd (e_fn F__law_within hr (a1 (e_v 5))))
     (zag (s_if (zcz (e_cb zoS B.any PyProof.Rows.boot_any (a1c (zaZ (Nc:=["_law_one","_law_start","_law_end","_law_row","_law_moment"]) (js:=[none,none,none,some 3,some 6]) (g:=(gTup K 3 (zbp (zaw 0) (zbp (zaw 1) (zbp (zaw 2) gNil))))) (tt:=tYes) (te:=(zlJ (tOp (rEqD K) (tVar 0) (tVar 3)) (zcG zaP [] E0 (zal (tVar 1) (zal (tVar 2) (zal (tVar 4) tNil))))))
   (zaB rfl rfl rfl rfl (fun x c h=>by simp at h; rcases h with ⟨rfl,rfl⟩ | ⟨rfl,rfl⟩ <;> rfl) rfl rfl rfl) (zat (e_v 0))
   (fun pins C s3 H3 fp=>⟨(zbv (zaf (g_n 0 nd5) (zaf (g_n 1 nd5) (zaf (g_n 2 nd5) zaR)))),.inl ⟨rfl,rfl⟩,(zl5 (zjQ (zn0 hr) (e_v 0) (e_v 3)) (zha (e_fn F__law_covers hr (ac (e_v 1) (ac (e_v 2) (a1 (e_v 4)))))))⟩))))) (zag (zdB (e_v 4) (e_v 5))) zaS))))
    (zag (s_if (zaW o_gt (e_cb zcM B.len PySem.boot_len (a1 (e_v 4))) e_i) (zag (zdB (e_v 1) (zbs (ac (e_v 3) (a1 (e_fn F__law_span hr (a1 (e_v 4)))))))) zaS)))))
   (zag (zau (e_v 1)))))),?_⟩
  have lf:xs.length = fs.length:=Paired.length pr
  have lb:(zbo fs).length ≤ 40:=by
   have:∀ l:List Fact,(zbo l).length ≤ 2 * l.length:=fun l=>by
    unfold zbo
    induction l with
    | nil=>exact Nat.le_refl _
    | cons f l ih=>rw [List.flatMap_cons,List.length_append,List.length_append,List.length_cons]; have:=len1 f.2.1; have:=len1 f.2.2; omega
   have:=this fs
   omega
  refine ⟨Nat.zero_le _,fun b hb=>?_⟩
  have s0:Same H (upd H b (.lst [])):=(Same.refl H).upd hb
  have u0:upd H b (.lst []) b = some (.lst []):=zaa
  generalize upd H b (.lst []) = H0 at s0 u0 ⊢
  refine ⟨_,rfl,l,xs,fs,zbo fs,rfl,s0 _ _ hl,zaH s0 pr,by omega,fun x h=>h,fun p1 H1 bs s1 hp1 h1 inc mem lbs=>?_⟩
  refine ⟨p1,bs,rfl,h1,by omega,fun p2 H2 zs s2 hp2 h2 pz=>?_⟩
  have s02:=s0.trans (s1.trans s2)
  have ub:=(s1.trans s2) _ _ u0
  have hlp:=s02 _ _ hl
  have pr2:=zaH s02 pr
  have n2b:p2 ≠ b:=fun z=>by rw [z,s1 _ _ u0] at hp2; cases hp2
  clear s1 s2 hp1 hp2 h1
  refine ⟨_,rfl,l,rfl,⟨xs,SqL.of hlp⟩,fun D hD=>?_⟩
  have nDb:b ≠ D:=fun z=>by rw [← z,ub] at hD; cases hD
  refine zaC (K:=K) (a:=l) (xs:=xs) (fun j _ σ H4=>∃ (o:Option V) (us:List V),σ = [o] ∧ Same H2 H4 ∧ H4 D = some (.lst us) ∧ Paired (RowAt H4) us ((fs.take j).map (·.1)))
   ⟨none,[],rfl,(Same.refl H2).upd hD,zaa,.nil⟩ (fun j _ σ H4 _ ⟨_,_,_,sm4,_⟩=>SqL.of (sm4 _ _ hlp)) ?_ ?_
  ·rintro j y _ σ H4 hy ⟨o,us,rfl,sm,h4,pu⟩
   obtain ⟨fc,hf,t,p,rfl,ht,hp⟩:=zaj pr2 hy
   have nt:=zaJ h4
   have lu:us.length = j:=by rw [Paired.length pu,List.length_map,List.length_take]; have:=(List.getElem?_eq_some_iff.mp hf).1; omega
   refine ⟨_,rfl,t,_,0,_,rfl,rfl,SqT.of (sm _ _ ht),rfl,us,h4,zae (by have:=(List.getElem?_eq_some_iff.mp hf).1; omega),[],_,us ++ [.ref p],rfl,sm.upd hD,zaa,?_⟩
   rw [take_snoc hf,List.map_append]
   exact zah (R:=RowAt (upd H4 D (.lst (us ++ [.ref p])))) ⟨p,rfl,zao nt _ _ (sm _ _ hp)⟩ (Paired.mapP pu fun _ _ ⟨t,a1,a2⟩=>⟨t,a1,zao nt _ _ a2⟩)
  rintro _ σ H4 ⟨o,us,rfl,s4,h4,pu⟩
  rw [lf,List.take_length] at pu
  have ne:∀ r ∈ fs.map (·.1),r ≠ []:=fun r hr=>by obtain ⟨f,hf,rfl⟩:=List.mem_map.mp hr; exact (good f hf).1
  refine ⟨D,us,fs.map (·.1),rfl,h4,pu,ne,by rw [List.length_map]; omega,fun p5 H5 rs ls s5 hp5 h5 pls L=>?_⟩
  have s05:=s02.trans (s4.trans s5)
  have ub5:=(s4.trans s5) _ _ ub
  have h25:=(s4.trans s5) _ _ h2
  have pz5:StsAt H5 zs (zaI bs):=StsAt.same (s4.trans s5) pz
  have pr5:=zaH s05 pr
  have hl5:=s05 _ _ hl
  have n5b:p5 ≠ b:=fun z=>by rw [z,s4 _ _ ub] at hp5; cases hp5
  have nlb:l ≠ b:=fun z=>by rw [z,hb] at hl; cases hl
  clear s4 s5 h4 pu hp5 pz pr2 hlp h2 ub
  have lrs:rs.length = ls.length:=Paired.length pls
  have lls:ls.length ≤ fs.length:=by
   have:=zax L.nd (m:=fs.map (·.1)) fun x hx=>(L.mem x).mp hx
   rwa [List.length_map] at this
  have sub:∀ x ∈ zbo fs,x ∈ bs:=fun x hx=>(mem x).mpr hx
  have lzs:zs.length = bs.length + 1:=by rw [Paired.length pz5,zb9]
  have dep:∀ r m m',zav bs m = zav bs m' → zac m (told fs r) = zac m' (told fs r):=fun r m m' e=>zfb inc sub r e
  have some_m:∀ r ∈ ls,∃ m,zac m (told fs r) = true:=fun r hr=>by
   obtain ⟨f,hf,rfl⟩:=List.mem_map.mp ((L.mem r).mp hr)
   obtain ⟨m,hm⟩:=zlf (good f hf).2
   exact ⟨m,zam.mpr ⟨f.2,zaF.mpr hf,hm⟩⟩
  refine ⟨p5,rfl,⟨rs,SqL.of h5⟩,zaA (K:=K) (a:=p5) (xs:=rs) (fun i σ H'=>∃ (o3 o4 o5 o6:Option V) (ys:List V) (es:List Ent),σ = [some (.ref l),some (.ref b),some (.ref p2),o3,o4,o5,o6] ∧ Same H H' ∧ (∀ c o,c ≠ b → H5 c = some o → H' c = some o) ∧ H' b = some (.lst ys) ∧ Paired (EntX H' b) ys es ∧ es.map (·.1) = ls.take i ∧ (∀ e ∈ es,Can e.2) ∧ ∀ e ∈ es,∀ m,zac m e.2 = zac m (told fs e.1))
   ⟨none,none,none,none,[],[],rfl,s05,fun c o _ h=>h,ub5,.nil,rfl,(fun e h=>nomatch h),(fun e h=>nomatch h)⟩ (fun i σ H' _ ⟨_,_,_,_,_,_,_,_,kp,_⟩=>SqL.of (kp _ _ n5b h5)) ?_ ?_⟩
  ·rintro i x σ H6 hx ⟨o3,o4,o5,o6,ys,es,rfl,s06,kp,hb6,pe,em,can,sp⟩
   obtain ⟨r,hr1,t,rfl,ht⟩:=zaj pls hx
   have hil:i < ls.length:=(List.getElem?_eq_some_iff.mp hr1).1
   have les:es.length = i:=by have:=congrArg List.length em; rw [List.length_map,List.length_take] at this; omega
   have lys:ys.length = i:=by rw [Paired.length pe,les]
   have ntb:t ≠ b:=fun z=>by rw [z,ub5] at ht; cases ht
   refine ⟨Nat.zero_le _,fun q hq=>?_⟩
   have s7:Same H6 (upd H6 q (.lst [])):=(Same.refl H6).upd hq
   have u7:upd H6 q (.lst []) q = some (.lst []):=zaa
   generalize upd H6 q (.lst []) = H7 at s7 u7 ⊢
   have nqb:b ≠ q:=fun z=>by rw [← z,hb6] at hq; cases hq
   have z7:=s7 _ _ (kp _ _ n2b h25)
   refine ⟨_,rfl,p2,rfl,⟨zs,SqL.of z7⟩,zaA (K:=K) (a:=p2) (xs:=zs) (fun j σ H'=>∃ (o5 o6:Option V) (ps:List V),σ = [some (.ref l),some (.ref b),some (.ref p2),some (.ref t),some (.ref q),o5,o6] ∧ Same H6 H' ∧ H' q = some (.lst ps) ∧ StsAt H' ps (litP (fun m=>zac m (told fs r)) ((zaI bs).take j)))
    ⟨o5,o6,[],rfl,s7,u7,.nil⟩ (fun j σ H' _ ⟨_,_,_,_,sm,_⟩=>SqL.of (sm _ _ (kp _ _ n2b h25))) ?_ ?_⟩
   ·rintro j y σ H8 hy ⟨o5,o6,ps,rfl,s8,h8,pp⟩
    obtain ⟨pc,hpc,u,rfl,hu⟩:=zaj pz5 hy
    have nub:u ≠ b:=fun z=>by rw [z,ub5] at hu; cases hu
    have k58:∀ c o,c ≠ b → H5 c = some o → H8 c = some o:=fun c o n h=>s8 _ _ (kp c o n h)
    have hj:j < (zaI bs).length:=(List.getElem?_eq_some_iff.mp hpc).1
    rw [zb9] at hj
    refine ⟨_,rfl,u,pc,rfl,k58 _ _ nub hu,?_⟩
    refine ⟨_,rfl,l,rfl,⟨xs,SqL.of (k58 _ _ nlb hl5)⟩,fun G hG=>?_⟩
    refine zaC (K:=K) (a:=l) (xs:=xs) (fun j _ σ H4=>∃ (o0 o1 o2:Option V),σ = [o0,o1,o2,some (.ref t),some (.int (zaU pc))] ∧ Same H8 H4 ∧ H4 G = some (.lst (((fs.take j).map fun f=>decide (f.1 = r) && inS (zaU pc) f.2).map V.bl)))
     ⟨none,none,none,rfl,(Same.refl H8).upd hG,zaa⟩ (fun j _ σ H4 _ ⟨_,_,_,_,sm4,_⟩=>SqL.of (sm4 _ _ (k58 _ _ nlb hl5))) ?_ ?_
    ·rintro j' y' _ σ H4 hy' ⟨o0,o1,o2,rfl,sm,h4⟩
     obtain ⟨fc,hf,t',p',rfl,ht',hp'⟩:=zaj pr5 hy'
     have ntb':t' ≠ b:=fun z=>by rw [z,ub5] at ht'; cases ht'
     have npb':p' ≠ b:=fun z=>by rw [z,ub5] at hp'; cases hp'
     have hj':j' < fs.length:=(List.getElem?_eq_some_iff.mp hf).1
     have sz:(((fs.take j').map fun f=>decide (f.1 = r) && inS (zaU pc) f.2).map V.bl).length < sizeLine:=zae (by rw [List.length_map,List.length_map,List.length_take]; omega)
     refine ⟨t',_,rfl,SqT.of (sm _ _ (k58 _ _ ntb' ht')),rfl,_,_,rfl,_,_,rfl,_,_,rfl,rfl,?_⟩
     refine ⟨_,rfl,_,rfl,_,_,RowAt.den ⟨p',rfl,sm _ _ (k58 _ _ npb' hp')⟩,RowAt.den ⟨t,rfl,sm _ _ (k58 _ _ ntb ht)⟩,zbw _,zbw _,_,rfl,?_⟩
     rw [zhf]
     have fin:∀ v:Bool,v = (decide (fc.1 = r) && inS (zaU pc) fc.2) → upd H4 G (.lst ((((fs.take j').map fun f=>decide (f.1 = r) && inS (zaU pc) f.2).map V.bl) ++ [.bl v])) G = some (.lst (((fs.take (j' + 1)).map fun f=>decide (f.1 = r) && inS (zaU pc) f.2).map V.bl)):=fun v hv=>by
      rw [zaa,take_snoc hf,List.map_append,List.map_append,hv]; rfl
     by_cases c:fc.1 = r
     ·rw [decide_eq_true c]
      exact iteT ⟨_,rfl,_,rfl,_,rfl,fc.2,_,rfl,_,h4,sz,[],_,_,_,rfl,sm.upd hG,fin _ (by rw [decide_eq_true c,Bool.true_and])⟩
     ·rw [decide_eq_false c]
      exact iteF ⟨_,h4,sz,[],_,_,_,rfl,sm.upd hG,fin _ (by rw [decide_eq_false c,Bool.false_and])⟩
    ·rintro _ σ H4 ⟨o0,o1,o2,rfl,sm,h4⟩
     rw [lf,List.take_length] at h4
     refine ⟨G,_,rfl,SqL.of h4,_,rfl,?_⟩
     have e1:(fs.map fun f=>decide (f.1 = r) && inS (zaU pc) f.2).any id = zac (zaU pc) (told fs r):=by
      rw [Bool.eq_iff_iff,List.any_eq_true,zam]
      constructor
      ·rintro ⟨v,hv,e⟩
       obtain ⟨f,hf,rfl⟩:=List.mem_map.mp hv
       have:=Bool.and_eq_true_iff.mp e
       exact ⟨f.2,zaF.mpr (by have e':=of_decide_eq_true this.1; rw [← e']; exact hf),this.2⟩
      ·rintro ⟨s,hs,hm⟩
       exact ⟨true,List.mem_map.mpr ⟨(r,s),zaF.mp hs,by simp [hm]⟩,rfl⟩
     rw [e1]
     have e2:litP (fun m=>zac m (told fs r)) ((zaI bs).take (j + 1)) = litP (fun m=>zac m (told fs r)) ((zaI bs).take j) ++ (if zac (zaU pc) (told fs r) = true then [pc] else []):=by
      unfold litP
      rw [take_snoc hpc,List.filter_append]
      by_cases c:zac (zaU pc) (told fs r) = true
      ·rw [if_pos c]; simp [c]
      ·rw [if_neg c]; simp [c]
     rw [e2]
     have s84:=s8.trans sm
     have lps:ps.length ≤ j:=by
      rw [Paired.length pp]
      exact Nat.le_trans (List.length_filter_le _ _) (by rw [List.length_take]; omega)
     by_cases c:zac (zaU pc) (told fs r) = true
     ·rw [if_pos c,c]
      have h44:=sm _ _ h8
      have nt:=zaJ h44
      refine iteT ⟨_,rfl,.inl ⟨rfl,_,SqL.of h44⟩,_,rfl,q,ps,_,rfl,rfl,h44,zae (by omega),_,_,ps ++ [.ref u],rfl,s84.upd hq,zaa,?_⟩
      exact zah (R:=StAt (upd H4 q (.lst (ps ++ [.ref u])))) ⟨u,rfl,zao nt _ _ (sm _ _ (k58 _ _ nub hu))⟩ (Paired.mapP pp fun _ _ ⟨t,a1,a2⟩=>⟨t,a1,zao nt _ _ (sm _ _ a2)⟩)
     ·rw [if_neg c,List.append_nil,Bool.eq_false_iff.mpr c]
      exact iteF ⟨_,_,ps,rfl,s84,sm _ _ h8,StsAt.same sm pp⟩
   ·rintro σ H8 ⟨o5,o6,ps,rfl,s8,h8,pp⟩
    rw [lzs,← zb9,List.take_length] at pp
    have lit:∀ m,zac m (litP (fun m=>zac m (told fs r)) (zaI bs)) = zac m (told fs r):=zmq inc (dep r)
    have okp:∀ p ∈ litP (fun m=>zac m (told fs r)) (zaI bs),okS p:=fun p hp=>zjM inc p (List.mem_filter.mp hp).1
    have bef:(litP (fun m=>zac m (told fs r)) (zaI bs)).Pairwise Bef:=(zij inc).sublist List.filter_sublist
    have llit:(litP (fun m=>zac m (told fs r)) (zaI bs)).length ≤ bs.length + 1:=by
     have:=List.length_filter_le (fun p=>zac (zaU p) (told fs r)) (zaI bs)
     rw [zb9] at this; exact this
    obtain ⟨m0,hm0⟩:=some_m r (List.mem_of_getElem? hr1)
    have pos:0 < ps.length:=by
     rw [Paired.length pp]
     have:=lit m0
     rw [hm0] at this
     obtain ⟨s,hs,_⟩:=zam.mp this
     exact List.length_pos_of_mem hs
    generalize litP (fun m=>zac m (told fs r)) (zaI bs) = lp at pp lit okp bef llit
    refine ⟨_,rfl,q,ps,rfl,.inl (SqL.of h8),_,_,rfl,rfl,_,rfl,?_⟩
    rw [decide_eq_true (by omega:(0:Int) < (ps.length:Int))]
    refine iteT ⟨_,rfl,.inl ⟨rfl,_,SqL.of (s8 _ _ hb6)⟩,_,rfl,_,rfl,q,ps,lp,rfl,h8,pp,okp,bef,by omega,fun p9 H9 ss s9 hp9 span J=>⟨by show 2 ≤ sizeLine; decide,fun v hv=>?_⟩⟩
    have s10:Same H9 (upd H9 v (.tup [.ref t,.ref p9])):=(Same.refl H9).upd hv
    have u10:upd H9 v (.tup [.ref t,.ref p9]) v = some (.tup [.ref t,.ref p9]):=zaa
    generalize upd H9 v (.tup [.ref t,.ref p9]) = Ha at s10 u10 ⊢
    have s6a:=s8.trans (s9.trans s10)
    have hba:=s6a _ _ hb6
    have n9b:p9 ≠ b:=fun z=>by rw [z,s8 _ _ hb6] at hp9; cases hp9
    have nt:=zaJ hba
    refine ⟨b,ys,_,rfl,rfl,hba,zae (by omega),_,_,_,_,ys ++ [.ref v],es ++ [(r,ss)],rfl,(s06.trans s6a).upd hb,fun c o n h=>?_,zaa,?_,?_,?_,?_⟩
    ·rw [zai n]; exact s6a _ _ (kp c o n h)
    ·have x9:EntX Ha b (.ref v) (r,ss):=⟨v,t,p9,rfl,u10,s6a _ _ (kp _ _ ntb ht),span.same s10,n9b⟩
     exact zah (R:=EntX (upd Ha b (.lst (ys ++ [.ref v]))) b) (x9.wr nt) (Paired.mapP pe fun _ _ z=>(z.same s6a).wr nt)
    ·rw [List.map_append,em,take_snoc hr1]; rfl
    ·intro e he
     rcases List.mem_append.mp he with z | z
     ·exact can e z
     ·rw [List.mem_singleton.mp z]; exact J.can
    ·intro e he m
     rcases List.mem_append.mp he with z | z
     ·exact sp e z m
     ·rw [List.mem_singleton.mp z]; show zac m ss = _; rw [J.sp,lit]
  ·rintro σ H6 ⟨o3,o4,o5,o6,ys,es,rfl,s06,kp,hb6,pe,em,can,sp⟩
   rw [lrs,List.take_length] at em
   exact ⟨_,rfl,k b H6 es s06 hb ⟨ys,hb6,Paired.mapP pe fun _ _ z=>z.ent⟩ (zkN L em can sp (fun r m h=>by obtain ⟨s,hs,_⟩:=zam.mp h; exact List.mem_map.mpr ⟨_,zaF.mp hs,rfl⟩) fun r hr=>some_m r ((L.mem r).mpr hr))⟩
end
end Prf
namespace L2
open PySem PySem.Spec PyProof.Rows PySem.NumText
end L2
namespace L2
open PySem PySem.Spec PyProof.Rows PySem.NumText Prf
end L2
namespace L2
open PySem PySem.Spec PyProof.Rows PySem.NumText Prf StrLaws Builtin.Str
end L2
namespace L2
open PySem PySem.Spec PyProof.Rows PySem.NumText Prf Builtin.Str
section
variable {X:Cx} {o:Expr} {to:TE} {t:TA} {apos cpos:Pos}
end
end L2
namespace L2
open PySem PySem.Spec PyProof.Rows PySem.NumText Prf Builtin.Str
section
variable {X:Cx} {tg:Expr}
def zn6 (K:PySem.W.Frag) : List V → Hp → VK → Prop:=fun vs H Q=>∃ l bs,vs = [.ref l] ∧ SqL K H l (List.map V.bl bs) ∧ Q (.bl (bs.all id)) H
theorem all_range (bs:List Bool) : (List.range bs.length).all (fun i=>bs.getD i true) = bs.all id:=by
 have e:bs = (List.range bs.length).map fun i=>bs.getD i true:=by
  apply List.ext_getElem (by simp)
  intro i h1 h2
  simp [h1]
 conv=>rhs; rw [e]
 rw [List.all_map]
 rfl
theorem zfi (hc:X.calm = true) : zcZ X (.builtin "all") (zn6 X.K):=by
 intro pins s σ H vs us Q I r ⟨l,bs,e,hl,q⟩
 subst e
 obtain ⟨u,rfl,ru⟩:=Vals.one r
 cases ru
 obtain ⟨its,rv,pl,_⟩:=I.list hl
 have ei:=zdk rv
 subst ei
 have hd:X.A.in1.handled = none:=I.ok.hd hc
 have hlt:l < s.heap.objs.size:=by obtain ⟨o,n,e,_⟩:=pl; exact Heap.lt_size e
 refine call_all_walk (wpAny_pyIter_list pl.isList ⟨_,_,_,_,_,_,(fun i=>bs.getD i true),rfl,Walks.list hd _ l (Nat.ne_of_lt hlt) _,⟨⟨_,Heap.get?_push_size _ rfl,rfl,rfl⟩,pl.isList.push _⟩,?_,fun h' tk hk=>?_⟩)
 ·intro i v s' Q' E' hv hq
  have hv':(List.map Value.bool bs)[i]? = some v:=by simpa using hv
  rw [List.getElem?_map] at hv'
  cases e:bs[i]? with
  | none=>rw [e] at hv'; cases hv'
  | some b =>
   rw [e] at hv'
   cases hv'
   have eb:bs.getD i true = b:=by rw [List.getD_eq_getElem?_getD,e]; rfl
   dsimp only at hq
   rw [eb] at hq
   exact wpAny_truthy_bool hq
 ·have ek:(List.map Value.bool bs).toArray.size = bs.length:=by simp
  rw [ek,all_range]
  refine ⟨.bl _,H,I.kept (fun b o q'=>hk b o (fun hm=>?_) (Heap.get?_push_of_some _ q')),rfl,q⟩
  have:b = s.heap.objs.size:=by simpa using hm
  exact absurd (this ▸ Heap.lt_size q') (Nat.lt_irrefl _)
theorem zoJ (hc:X.calm = true:=by rfl) : JC X (.builtin "all") (zn6 X.K):=⟨zfi hc⟩
end
end L2
namespace L2
open PySem PySem.Spec PyProof.Rows
theorem zow {X:Cx} {k:Nat} (hr:Room k X.A) : JOp X (compareOp .Lt) (rLtT X.K):=⟨zok (by have:=hr.units; omega)⟩
theorem ze9:∀ a b:List Int,HT.lexLt a b = lexI a b
 | [],[]=>rfl
 | [],_ :: _=>rfl
 | _ :: _,[]=>rfl
 | x :: a,y :: b=>by rw [HT.lexLt_cons,ze9 a b]; rfl
theorem ix0 {α:Type} {xs:List α} {i:Nat} {v:α} (h:xs[i]? = some v) : atI xs (0 + (i:Int)) = some v:=by rw [Int.zero_add]; exact za1 h
end L2
namespace Prf
open PySem L2 Wr
theorem zhD {zs:List Stt} {i:Nat} {p q:Stt} (h:Can zs) (hp:zs[i]? = some p) (hq:zs[i + 1]? = some q) : ∃ b c,p.2 = some b ∧ q.1 = some c ∧ b < c:=by
 obtain ⟨a1,e1⟩:=List.getElem?_eq_some_iff.mp hp
 obtain ⟨a2,e2⟩:=List.getElem?_eq_some_iff.mp hq
 have:=List.pairwise_iff_getElem.mp h.2 i (i + 1) a1 a2 (by omega)
 rw [e1,e2] at this
 exact this
section
variable {P:Program} {w:World} {K:PySem.W.Frag} {mg:Str → Option Value} {base:Heap}
def zbz:Sp:=fun vs H Q _=>∃ (a:Addr) (zs:List Stt),vs = [.ref a] ∧ SpanAt H a zs ∧ Can zs ∧ zs ≠ [] ∧ zs.length ≤ 900 ∧ Q (.bl true) H
theorem zaG:FnScope ["_law_span_here","_law_last","_law_k","_law_start","_law_end"] ["_law_span_here"] (zad zby):=⟨rfl,rfl,rfl,by decide +kernel,rfl,by decide +kernel,by decide +kernel⟩
theorem zd5 {f:Addr} {fd:FuncData} (F:Fun K "_law_is_span" "_law_is_span" zby f fd) (B:Blts mg) (F__law_whole:FnP P w K mg base 1 "_law_whole" ["_law_found"] zba) : FnOk P w K mg base CX0 2 f fd ["_law_span_here"] zbz:=by
 refine F.okJ zaG (fun vs H Q E h=>?_) (fun cdv A outer s H vs Q E hr h=>?_)
 ·obtain ⟨_,_,rfl,_⟩:=h
  rfl
 ·obtain ⟨a,zs,rfl,⟨xs,hx,sx⟩,can,ne,l9,k⟩:=h
  refine ⟨_,(zab (s_if (JW.jt (w_or (zdA (zcz (e_cb zgR B.isinstance PyProof.Rows.boot_isinstance (ac (e_v 0) (a1 (e_ty B.list PyProof.Rows.boot_list)))))) (zfy (zaW o_eq (e_cb zcM B.len PySem.boot_len (a1 (e_v 0))) e_i)))) (zag (zau e_b)) zaS)
   (zab (zar 1 zaG.nd e_n)
   (zab (zbd (zcY B.range (a1 (e_cb zcM B.len PySem.boot_len (a1 (e_v 0))))) (g_n 2 zaG.nd)
    (zab (s_if (JW.jt (w_or (zdA (zcz (e_cb zgR B.isinstance PyProof.Rows.boot_isinstance (ac (e_ix zaY (e_v 0) (e_v 2)) (a1 (e_ty B.tuple PyProof.Rows.boot_tuple)))))) (zfy (zaW o_ne (e_cb zcM B.len PySem.boot_len (a1 (e_ix zaY (e_v 0) (e_v 2)))) e_i)))) (zag (zau e_b)) zaS)
    (zab (zl2 (e_ix zaY (e_v 0) (e_v 2)) (zbv (zaf (g_n 3 zaG.nd) (zaf (g_n 4 zaG.nd) zaR))))
    (zab (s_if (JW.jt (w_or (JW.jt (w_and (zc8 (e_v 3)) (zdD (zdA (zcz (e_fn F__law_whole hr (a1 (e_v 3)))))))) (zfy (JW.jt (w_and (zc8 (e_v 4)) (zdD (zdA (zcz (e_fn F__law_whole hr (a1 (e_v 4))))))))))) (zag (zau e_b)) zaS)
    (zab (s_if (JW.jt (w_and (zaW o_gt (e_v 2) e_i) (zdD (JW.jt (w_or (zi2 (e_v 3)) (w_or (zi2 (e_v 1)) (zfy (zaW o_le (e_v 3) (e_v 1))))))))) (zag (zau e_b)) zaS)
    (zab (s_if (JW.jt (w_and (zc8 (e_v 3)) (w_and (zc8 (e_v 4)) (zdD (zaW o_ge (e_v 3) (e_v 4)))))) (zag (zau e_b)) zaS)
    (zag (zar 1 zaG.nd (e_v 4)))))))))
   (zag (zau e_b))))),?_⟩
  have lx:xs.length = zs.length:=Paired.length sx
  have lp:0 < zs.length:=List.length_pos_iff.mpr ne
  refine ⟨_,rfl,_,_,_,_,rfl,.lst hx,zcu K "list", _,rfl,iteF ?_⟩
  refine ⟨_,rfl,a,xs,rfl,.inl (SqL.of hx),rfl,_,rfl,zmv (by omega) ?_⟩
  refine ⟨_,rfl,a,xs,rfl,.inl (SqL.of hx),_,rfl,by omega,by omega,zdc (n:=xs.length) (fun i σ H'=>∃ (la:Option Int) (o2 o3 o4:Option V),σ = [some (.ref a),some (vO la),o2,o3,o4] ∧ H' = H ∧ (0 < i → ∃ z,zs[i - 1]? = some z ∧ la = z.2)) ⟨none,none,none,none,rfl,rfl,fun h=>absurd h (by omega)⟩ ?_ ?_⟩
  ·rintro i σ H' hi ⟨la,o2,o3,o4,rfl,rfl,hla⟩
   obtain ⟨x,ex⟩ : ∃ x,xs[i]? = some x:=⟨xs[i],List.getElem?_eq_getElem hi⟩
   obtain ⟨q,hq,t,rfl,ht⟩:=zaj sx ex
   have okq:=can.1 q (List.mem_of_getElem? hq)
   obtain ⟨q1,q2⟩:=q
   refine ⟨_,rfl,_,rfl,a,xs,_,_,rfl,rfl,SqL.of hx,ix0 ex,_,_,_,_,rfl,.tup ht,zcu K "tuple", _,rfl,iteF ?_⟩
   refine ⟨_,rfl,_,rfl,a,xs,_,_,rfl,rfl,SqL.of hx,ix0 ex,t,_,rfl,.inr (SqT.of ht),rfl,_,rfl,zmg rfl ?_⟩
   refine ⟨_,rfl,_,rfl,a,xs,_,_,rfl,rfl,SqL.of hx,ix0 ex,t,_,rfl,SqT.of ht,rfl,_,_,rfl,_,_,rfl,rfl,?_⟩
   cases q1 with
   | none =>
    have i0:i = 0:=by
     cases i with
     | zero=>rfl
     | succ j =>
      obtain ⟨z,hz,_⟩:=hla (by omega)
      obtain ⟨b,c,_,e2,_⟩:=zhD can hz hq
      cases e2
    have hz : ¬ (0:Int) < 0 + (i:Int):=by omega
    cases q2 with
    | none =>
     refine ⟨_,rfl,_,rfl,iteF (iteF ?_)⟩
     refine ⟨_,rfl,_,rfl,iteF (iteF ?_)⟩
     refine ⟨_,rfl,_,_,rfl,rfl,_,rfl,?_⟩
     rw [decide_eq_false hz]
     refine iteF (iteF ?_)
     refine ⟨_,rfl,_,rfl,iteF (iteF ?_)⟩
     exact ⟨_,rfl,_,_,_,_,rfl,rfl,fun _=>⟨_,hq,rfl⟩⟩
    | some y =>
     refine ⟨_,rfl,_,rfl,iteF (iteF ?_)⟩
     refine ⟨_,rfl,_,rfl,iteT ⟨_,rfl,y,rfl,_,rfl,iteF ?_⟩⟩
     refine ⟨_,rfl,_,_,rfl,rfl,_,rfl,?_⟩
     rw [decide_eq_false hz]
     refine iteF (iteF ?_)
     refine ⟨_,rfl,_,rfl,iteF (iteF ?_)⟩
     exact ⟨_,rfl,_,_,_,_,rfl,rfl,fun _=>⟨_,hq,rfl⟩⟩
   | some x =>
    cases i with
    | zero =>
     have hz : ¬ (0:Int) < 0 + ((0:Nat) : Int):=by omega
     cases q2 with
     | none =>
      refine ⟨_,rfl,_,rfl,iteT ⟨_,rfl,x,rfl,_,rfl,iteF ?_⟩⟩
      refine ⟨_,rfl,_,rfl,iteF (iteF ?_)⟩
      refine ⟨_,rfl,_,_,rfl,rfl,_,rfl,?_⟩
      rw [decide_eq_false hz]
      refine iteF (iteF ?_)
      refine ⟨_,rfl,_,rfl,iteT ⟨_,rfl,_,rfl,iteF (iteF ?_)⟩⟩
      exact ⟨_,rfl,_,_,_,_,rfl,rfl,fun _=>⟨_,hq,rfl⟩⟩
     | some y =>
      refine ⟨_,rfl,_,rfl,iteT ⟨_,rfl,x,rfl,_,rfl,iteF ?_⟩⟩
      refine ⟨_,rfl,_,rfl,iteT ⟨_,rfl,y,rfl,_,rfl,iteF ?_⟩⟩
      refine ⟨_,rfl,_,_,rfl,rfl,_,rfl,?_⟩
      rw [decide_eq_false hz]
      refine iteF (iteF ?_)
      refine ⟨_,rfl,_,rfl,iteT ⟨_,rfl,_,rfl,iteT ⟨_,rfl,_,rfl,_,_,rfl,rfl,_,rfl,?_⟩⟩⟩
      rw [decide_eq_false (by have:=okq x y rfl rfl; omega)]
      refine iteF ?_
      exact ⟨_,rfl,_,_,_,_,rfl,rfl,fun _=>⟨_,hq,rfl⟩⟩
    | succ j =>
     have hp:(0:Int) < 0 + ((j + 1:Nat) : Int):=by omega
     obtain ⟨z,hz,rfl⟩:=hla (by omega)
     obtain ⟨b,c,e1,e2,lt⟩:=zhD can hz hq
     cases e2
     rw [e1]
     have hb' : ¬ x ≤ b:=by omega
     cases q2 with
     | none =>
      refine ⟨_,rfl,_,rfl,iteT ⟨_,rfl,x,rfl,_,rfl,iteF ?_⟩⟩
      refine ⟨_,rfl,_,rfl,iteF (iteF ?_)⟩
      refine ⟨_,rfl,_,_,rfl,rfl,_,rfl,?_⟩
      rw [decide_eq_true hp]
      refine iteT ⟨_,rfl,_,rfl,iteF ⟨_,rfl,_,rfl,iteF ⟨_,rfl,_,rfl,_,_,rfl,rfl,_,rfl,?_⟩⟩⟩
      rw [decide_eq_false hb']
      refine iteF ?_
      refine ⟨_,rfl,_,rfl,iteT ⟨_,rfl,_,rfl,iteF (iteF ?_)⟩⟩
      exact ⟨_,rfl,_,_,_,_,rfl,rfl,fun _=>⟨_,hq,rfl⟩⟩
     | some y =>
      refine ⟨_,rfl,_,rfl,iteT ⟨_,rfl,x,rfl,_,rfl,iteF ?_⟩⟩
      refine ⟨_,rfl,_,rfl,iteT ⟨_,rfl,y,rfl,_,rfl,iteF ?_⟩⟩
      refine ⟨_,rfl,_,_,rfl,rfl,_,rfl,?_⟩
      rw [decide_eq_true hp]
      refine iteT ⟨_,rfl,_,rfl,iteF ⟨_,rfl,_,rfl,iteF ⟨_,rfl,_,rfl,_,_,rfl,rfl,_,rfl,?_⟩⟩⟩
      rw [decide_eq_false hb']
      refine iteF ?_
      refine ⟨_,rfl,_,rfl,iteT ⟨_,rfl,_,rfl,iteT ⟨_,rfl,_,rfl,_,_,rfl,rfl,_,rfl,?_⟩⟩⟩
      rw [decide_eq_false (by have:=okq x y rfl rfl; omega)]
      refine iteF ?_
      exact ⟨_,rfl,_,_,_,_,rfl,rfl,fun _=>⟨_,hq,rfl⟩⟩
  ·rintro σ H' ⟨la,o2,o3,o4,rfl,rfl,hla⟩
   exact k
def zbr:Sp:=fun vs H Q _=>∃ (a:Addr) (n:Nat) (es:List Ent),vs = [.ref a,.int (n:Int)] ∧ SheetAt H a es ∧ (∀ e ∈ es,Can e.2 ∧ e.2 ≠ [] ∧ e.2.length ≤ 900 ∧ e.1.length = n) ∧ n ≤ 100 ∧ (es.map (·.1)).Pairwise (fun a b=>lexI b a = false) ∧ (es.map (·.1)).Nodup ∧ es.length ≤ 900 ∧ ∀ H',Same H H' → Q (.bl true) H'
theorem zbn:FnScope ["_law_found","_law_size","_law_k","_law_row"] ["_law_found","_law_size"] (zad zbq):=⟨rfl,rfl,rfl,by decide +kernel,rfl,by decide +kernel,by decide +kernel⟩
theorem zdL {f:Addr} {fd:FuncData} (F:Fun K "_law_is_sheet" "_law_is_sheet" zbq f fd) (B:Blts mg) (F__law_is_span:FnP P w K mg base 2 "_law_is_span" ["_law_span_here"] zbz) (F__law_whole:FnP P w K mg base 1 "_law_whole" ["_law_found"] zba) : FnOk P w K mg base CX0 3 f fd ["_law_found","_law_size"] zbr:=by
 refine F.okJ zbn (fun vs H Q E h=>?_) (fun cdv A outer s H vs Q E hr h=>?_)
 ·obtain ⟨_,_,_,rfl,_⟩:=h
  rfl
 ·obtain ⟨a,n,es,rfl,⟨xs,hx,px⟩,good,n100,ord,nde,l9,k⟩:=h
  have nd1:(["_law_cell"] : List Str).Nodup:=by decide +kernel
  refine ⟨_,(zab (s_if (zdA (zcz (e_cb zgR B.isinstance PyProof.Rows.boot_isinstance (ac (e_v 0) (a1 (e_ty B.list PyProof.Rows.boot_list)))))) (zag (zau e_b)) zaS)
   (zab (zbd (zcY B.range (a1 (e_cb zcM B.len PySem.boot_len (a1 (e_v 0))))) (g_n 2 zbn.nd)
    (zab (s_if (JW.jt (w_or (zdA (zcz (e_cb zgR B.isinstance PyProof.Rows.boot_isinstance (ac (e_ix zaY (e_v 0) (e_v 2)) (a1 (e_ty B.tuple PyProof.Rows.boot_tuple)))))) (w_or (zaW o_ne (e_cb zcM B.len PySem.boot_len (a1 (e_ix zaY (e_v 0) (e_v 2)))) e_i) (zfy (zdA (zcz (e_fn F__law_is_span hr (a1 (e_ix zbg (e_ix zaY (e_v 0) (e_v 2)) e_i))))))))) (zag (zau e_b)) zaS)
    (zab (zar 3 zbn.nd (e_ix zbg (e_ix zaY (e_v 0) (e_v 2)) e_i))
    (zab (s_if (JW.jt (w_or (zdA (zcz (e_cb zgR B.isinstance PyProof.Rows.boot_isinstance (ac (e_v 3) (a1 (e_ty B.tuple PyProof.Rows.boot_tuple)))))) (w_or (zaW o_ne (e_cb zcM B.len PySem.boot_len (a1 (e_v 3))) (e_v 1)) (zfy (zdA (zcz (e_cb zoJ B.all PyProof.Rows.boot_all (a1c (zaZ (Nc:=["_law_cell"]) (js:=[none]) (g:=(zaw 0)) (tt:=tYes) (te:=(zcG zba [] E0 (zal (tVar 0) tNil)))
   (zaB rfl rfl rfl rfl (fun x c h=>by cases h) rfl rfl rfl) (zoz (e_v 3))
   (fun pins C s3 H3 fp=>⟨(g_n 0 nd1),.inl ⟨rfl,rfl⟩,(e_fn F__law_whole hr (a1 (e_v 0)))⟩)))))))))) (zag (zau e_b)) zaS)
    (zag (s_if (JW.jt (w_and (zaW o_gt (e_v 2) e_i) (zdD (zdA (zaW (zow hr) (e_ix zbg (e_ix zaY (e_v 0) (e_op zgd (e_v 2) e_i)) e_i) (e_v 3)))))) (zag (zau e_b)) zaS))))))
   (zag (zau e_b)))),?_⟩
  have lx:xs.length = es.length:=Paired.length px
  refine ⟨_,rfl,_,_,_,_,rfl,.lst hx,zcu K "list", _,rfl,iteF ?_⟩
  refine ⟨_,rfl,a,xs,rfl,.inl (SqL.of hx),_,rfl,by omega,by omega,zdc (n:=xs.length) (fun i σ H'=>∃ (o2 o3:Option V),σ = [some (.ref a),some (.int (n:Int)),o2,o3] ∧ Same H H') ⟨none,none,rfl,Same.refl H⟩ ?_ ?_⟩
  ·rintro i σ H' hi ⟨o2,o3,rfl,sm⟩
   obtain ⟨x,ex⟩ : ∃ x,xs[i]? = some x:=⟨xs[i],List.getElem?_eq_getElem hi⟩
   obtain ⟨e,he,t,p,q,rfl,ht,hp,hq⟩:=zaj px ex
   obtain ⟨g1,g2,g3,g4⟩:=good e (List.mem_of_getElem? he)
   have hx':=sm _ _ hx
   have ht':=sm _ _ ht
   have hp':=sm _ _ hp
   refine ⟨_,rfl,_,rfl,a,xs,_,_,rfl,rfl,SqL.of hx',ix0 ex,_,_,_,_,rfl,.tup ht',zcu K "tuple", _,rfl,iteF ?_⟩
   refine ⟨_,rfl,_,rfl,a,xs,_,_,rfl,rfl,SqL.of hx',ix0 ex,t,_,rfl,.inr (SqT.of ht'),rfl,_,rfl,zmg rfl ?_⟩
   refine ⟨_,rfl,_,rfl,a,xs,_,_,rfl,rfl,SqL.of hx',ix0 ex,t,_,1,_,rfl,rfl,SqT.of ht',rfl,q,e.2,rfl,hq.same sm,g1,g2,g3,_,rfl,iteF ?_⟩
   refine ⟨_,rfl,_,rfl,a,xs,_,_,rfl,rfl,SqL.of hx',ix0 ex,t,_,0,_,rfl,rfl,SqT.of ht',rfl,?_⟩
   refine ⟨_,rfl,_,_,_,_,rfl,.tup hp',zcu K "tuple", _,rfl,iteF ?_⟩
   refine ⟨_,rfl,p,_,rfl,.inr (SqT.of hp'),_,rfl,rfl,_,rfl,zmg (by rw [List.length_map,g4]) ?_⟩
   refine ⟨_,rfl,p,rfl,⟨_,SqT.of hp'⟩,fun D hD=>?_⟩
   refine zkm (K:=K) (a:=p) (xs:=e.1.map V.int) (fun j σ H4=>∃ (o0:Option V),σ = [o0] ∧ Same H' H4 ∧ H4 D = some (.lst ((List.replicate j true).map V.bl)))
    ⟨none,rfl,(Same.refl H').upd hD,zaa⟩ (fun j σ H4 _ ⟨_,_,sm4,_⟩=>SqT.of (sm4 _ _ hp')) ?_ ?_
   ·rintro j y σ H4 hy ⟨o0,rfl,sm4,h4⟩
    obtain ⟨c,rfl⟩:=znB hy
    have hj:=(List.getElem?_eq_some_iff.mp hy).1
    rw [List.length_map] at hj
    exact ⟨_,rfl,c,rfl,_,h4,zae (by rw [List.length_map,List.length_replicate]; omega),_,rfl,sm4.upd hD,by rw [zaa,List.replicate_succ',List.map_append]; rfl⟩
   ·rintro σ H4 ⟨o0,rfl,sm4,h4⟩
    refine ⟨D,_,rfl,SqL.of h4,_,rfl,?_⟩
    rw [show (List.replicate (e.1.map V.int).length true).all id = true from by simp]
    refine iteF ?_
    have s4:=sm.trans sm4
    refine ⟨_,rfl,_,_,rfl,rfl,_,rfl,?_⟩
    cases i with
    | zero =>
     rw [decide_eq_false (by omega)]
     exact iteF (iteF ⟨_,_,rfl,s4⟩)
    | succ i =>
     rw [decide_eq_true (by omega)]
     obtain ⟨x0,ex0⟩ : ∃ x,xs[i]? = some x:=⟨xs[i],List.getElem?_eq_getElem (by omega)⟩
     obtain ⟨e0,he0,t0,p0,q0,rfl,ht0,hp0,hq0⟩:=zaj px ex0
     have lt:lexI e0.1 e.1 = true:=by
      obtain ⟨a1,b1⟩:=List.getElem?_eq_some_iff.mp he0
      obtain ⟨a2,b2⟩:=List.getElem?_eq_some_iff.mp he
      have o:=List.pairwise_iff_getElem.mp ord i (i + 1) (by rw [List.length_map]; omega) (by rw [List.length_map]; omega) (by omega)
      have d:=List.pairwise_iff_getElem.mp nde i (i + 1) (by rw [List.length_map]; omega) (by rw [List.length_map]; omega) (by omega)
      rw [List.getElem_map,List.getElem_map,b1,b2] at o d
      cases z:lexI e0.1 e.1 with
      | true=>rfl
      | false=>exact absurd (zbK z o) d
     refine iteT ⟨_,rfl,_,rfl,_,_,rfl,rfl,a,xs,_,_,rfl,rfl,SqL.of (s4 _ _ hx),(show atI xs (0 + ((i + 1:Nat) : Int) - 1) = _ by rw [show (0 + ((i + 1:Nat) : Int) - 1) = (i:Int) by omega]; exact za1 ex0),t0,_,0,_,rfl,rfl,SqT.of (s4 _ _ ht0),rfl,_,rfl,p0,p,e0.1,e.1,rfl,rfl,SqT.of (s4 _ _ hp0),SqT.of (s4 _ _ hp),_,rfl,?_⟩
     rw [ze9,lt]
     exact iteF ⟨_,_,rfl,s4⟩
  ·rintro σ H' ⟨o2,o3,rfl,sm⟩
   exact k H' sm
end
section
variable {P:Program} {w:World} {K:PySem.W.Frag} {mg:Str → Option Value} {base:Heap}
def zbA:Sp:=fun vs H Q _=>∃ (c fh:Int) (n:Nat) (pl:Addr) (x y z:Int),vs = [.int c,.int (n:Int),.ref pl,.int fh] ∧ H pl = some (.lst [.int x,.int y,.int z]) ∧ n ≤ 9 ∧
 ∀ (t:Addr) (H':Hp) (f:Fact),Same H H' → H t = none → FactAt H' (.ref t) f → f.1.length = n → okS f.2 → Q (.ref t) H'
theorem za6:FnScope ["_law_cell","_law_size","_law_pool_here","_law_first_here","_law_row","_law_start","_law_end"] ["_law_cell","_law_size","_law_pool_here","_law_first_here"] (zad zcr):=⟨rfl,rfl,rfl,by decide +kernel,rfl,by decide +kernel,by decide +kernel⟩
theorem zgE {f:Addr} {fd:FuncData} (F:Fun K "_law_fact" "_law_fact" zcr f fd) (B:Blts mg) (F__law_mixed:FnP P w K mg base 1 "_law_mixed" ["_law_cell","_law_k"] zan) : FnOk P w K mg base CX0 2 f fd ["_law_cell","_law_size","_law_pool_here","_law_first_here"] zbA:=by
 refine F.okJ za6 (fun vs H Q E h=>?_) (fun cdv A outer s H vs Q E hr h=>?_)
 ·obtain ⟨_,_,_,_,_,_,_,rfl,_⟩:=h
  rfl
 ·obtain ⟨c,fh,n,pl,x,y,z,rfl,hpl,n9,k⟩:=h
  have nd3:(["_law_k","_law_pool_here","_law_cell"] : List Str).Nodup:=by decide +kernel
  refine ⟨_,(zab (zar 4 za6.nd (e_ct zd9 B.tuple PyProof.Rows.boot_tuple (a1c (zaZ (Nc:=["_law_k","_law_pool_here","_law_cell"]) (js:=[none,some 2,some 0]) (g:=(zaw 0)) (tt:=tYes) (te:=(tOp (rIxL K) (tVar 1) (tOp (rI (fun _ j=>0 < j) fun i j=>.int (i % j)) (zcG zan [] E0 (zal (tVar 2) (zal (tOp (rI0 fun i j=>.int (i + j)) (tC (.int 40)) (tVar 0)) tNil))) (tC (.int 3)))))
   (zaB rfl rfl rfl rfl (fun x c h=>by simp at h; rcases h with ⟨rfl,rfl⟩ | ⟨rfl,rfl⟩ <;> rfl) rfl rfl rfl) (zcY B.range (a1 (e_v 1)))
   (fun pins C s3 H3 fp=>⟨(g_n 0 nd3),.inl ⟨rfl,rfl⟩,(e_ix zaY (e_v 1) (e_op zbf (e_fn F__law_mixed hr (ac (e_v 2) (a1 (e_op zbu e_i (e_v 0))))) e_i))⟩)))))
   (zab (zar 5 za6.nd (e_op zbu (e_v 3) (e_op zbf (e_fn F__law_mixed hr (ac (e_v 0) (a1 e_i))) e_i)))
   (zab (zar 6 za6.nd (e_op zbu (e_op zbu (e_v 5) e_i) (e_op zbf (e_fn F__law_mixed hr (ac (e_v 0) (a1 e_i))) e_i)))
   (zab (s_if (zaW o_eq (e_op zbf (e_fn F__law_mixed hr (ac (e_v 0) (a1 e_i))) e_i) e_i) (zag (zar 5 za6.nd e_n)) zaS)
   (zab (s_if (zaW o_eq (e_op zbf (e_fn F__law_mixed hr (ac (e_v 0) (a1 e_i))) e_i) e_i) (zag (zar 6 za6.nd e_n)) zaS)
   (zag (zau (zbs (ac (e_v 4) (ac (e_v 5) (a1 (e_v 6)))))))))))),?_⟩
  refine ⟨_,rfl,_,rfl,by omega,by omega,fun D hD=>?_⟩
  rw [Int.toNat_natCast]
  refine zbM (n:=n) (fun i σ H'=>∃ (o:Option V) (row:List Int),σ = [o,some (.ref pl),some (.int c)] ∧ Same H H' ∧ H' D = some (.lst (row.map V.int)) ∧ row.length = i) ⟨none,[],rfl,(Same.refl H).upd hD,zaa,rfl⟩ ?_ ?_
  ·rintro i σ H' hi ⟨o,row,rfl,sm,hl,lr⟩
   refine ⟨_,rfl,_,rfl,_,rfl,_,_,rfl,rfl,c,_,rfl,by show (0:Int) ≤ 40 + (0 + (i:Int)); omega,by show (40 + (0 + (i:Int)) : Int) ≤ 1000; omega,fun r r0 r1=>?_⟩
   obtain ⟨j,ej,hj⟩:=zdy (r:=r) (n:=3) (by omega)
   obtain ⟨v,hv⟩ : ∃ v:Int,([.int x,.int y,.int z] : List V)[j]? = some (.int v):=by
    match j,hj with
    | 0,_=>exact ⟨x,rfl⟩
    | 1,_=>exact ⟨y,rfl⟩
    | 2,_=>exact ⟨z,rfl⟩
   have hv':atI ([.int x,.int y,.int z] : List V) (r % 3) = some (.int v):=by rw [show (3:Int) = ((3:Nat) : Int) from rfl,ej]; exact za1 hv
   refine ⟨_,_,rfl,rfl,pz,pl,_,_,_,rfl,rfl,SqL.of (sm _ _ hpl),hv',_,hl,zae (by rw [List.length_map]; omega),_,row ++ [v],rfl,sm.upd hD,by rw [zaa,List.map_append]; rfl,by rw [List.length_append,lr]; rfl⟩
  rintro σ H1 ⟨o,row,rfl,s1,hl,lr⟩
  refine ⟨D,_,rfl,.inl ⟨SqL.of hl,fun p hp=>?_⟩⟩
  have s2:Same H1 (upd H1 p (.tup (row.map V.int))):=(Same.refl H1).upd hp
  have u2:upd H1 p (.tup (row.map V.int)) p = some (.tup (row.map V.int)):=zaa
  generalize upd H1 p (.tup (row.map V.int)) = H2 at s2 u2 ⊢
  have s02:=s1.trans s2
  refine ⟨_,rfl,_,rfl,c,50,rfl,by decide,by decide,fun r1 _ _=>⟨_,_,rfl,rfl,pz,_,_,rfl,rfl,?_⟩⟩
  have m1:=Int.emod_nonneg r1 (show (9:Int) ≠ 0 by decide)
  refine ⟨_,rfl,_,_,rfl,rfl,_,rfl,c,51,rfl,by decide,by decide,fun r2 _ _=>⟨_,_,rfl,rfl,pz,_,_,rfl,rfl,?_⟩⟩
  have m2:=Int.emod_nonneg r2 (show (5:Int) ≠ 0 by decide)
  have lt:fh + r1 % 9 < fh + r1 % 9 + 1 + r2 % 5:=by omega
  have fin:∀ (a b:Option Int),okS (a,b) → tRet (tTup (zal (tVar 4) (zal (tVar 5) (zal (tVar 6) tNil)))) { nx:=fun _ H'=>Q .non H',rt:=Q } [some (.int c),some (.int (n:Int)),some (.ref pl),some (.int fh),some (.ref p),some (vO a),some (vO b)] H2:=by
   intro a b ok
   refine ⟨_,rfl,_,rfl,_,rfl,by show 3 ≤ sizeLine; decide,fun v hv=>?_⟩
   exact k v _ (row,a,b) (s02.trans ((Same.refl H2).upd hv)) (s02.free hv) ⟨v,p,rfl,zaa,((Same.refl H2).upd hv) _ _ u2⟩ lr ok
  refine ⟨_,rfl,c,52,rfl,by decide,by decide,fun r3 _ _=>⟨_,_,rfl,rfl,pz,rfl,_,rfl,?_⟩⟩
  refine ite2 (fun _=>?_) (fun _=>?_)
  ·refine ⟨_,rfl,c,53,rfl,by decide,by decide,fun r4 _ _=>⟨_,_,rfl,rfl,pz,rfl,_,rfl,?_⟩⟩
   refine ite2 (fun _=>?_) (fun _=>?_)
   ·exact fin none none (fun _ _ h=>nomatch h)
   ·exact fin none (some (fh + r1 % 9 + 1 + r2 % 5)) (fun _ _ h=>nomatch h)
  ·refine ⟨_,rfl,c,53,rfl,by decide,by decide,fun r4 _ _=>⟨_,_,rfl,rfl,pz,rfl,_,rfl,?_⟩⟩
   refine ite2 (fun _=>?_) (fun _=>?_)
   ·exact fin (some (fh + r1 % 9)) none (fun _ _ _ h=>nomatch h)
   ·exact fin (some (fh + r1 % 9)) (some (fh + r1 % 9 + 1 + r2 % 5)) (fun a b h1 h2=>by cases h1; cases h2; exact lt)
def zb4:Sp:=fun vs H Q _=>∃ (c:Int),vs = [.int c] ∧ ∀ r:Int,Q (.int r) H
theorem zf0:FnScope ["_law_cell"] ["_law_cell"] (zad zbX):=⟨rfl,rfl,rfl,by decide +kernel,rfl,by decide +kernel,by decide +kernel⟩
theorem zfU {f:Addr} {fd:FuncData} (F:Fun K "_law_first" "_law_first" zbX f fd) (F__law_mixed:FnP P w K mg base 1 "_law_mixed" ["_law_cell","_law_k"] zan) : FnOk P w K mg base CX0 2 f fd ["_law_cell"] zb4:=by
 refine F.okJ zf0 (fun vs H Q E h=>?_) (fun cdv A outer s H vs Q E hr h=>?_)
 ·obtain ⟨_,rfl,_⟩:=h
  rfl
 ·obtain ⟨c,rfl,q⟩:=h
  refine ⟨_,(zab (s_if (zaW o_eq (e_op zbf (e_v 0) e_i) e_i) (zag (zau (e_op zgd e_i (e_op zbf (e_op zc5 (e_v 0) e_i) e_i)))) zaS)
   (zab (s_if (zaW o_gt (e_v 0) (e_op zdv e_i e_i)) (zag (zau (e_op zgd (e_op zbf (e_op zc5 (e_v 0) e_i) (e_op zdh e_i (e_op zdv e_i e_i))) (e_op zdv e_i e_i)))) zaS)
   (zag (zau (e_op zgd (e_op zbf (e_op zdh (e_op zdh (e_fn F__law_mixed hr (ac (e_v 0) (a1 e_i))) (e_fn F__law_mixed hr (ac (e_v 0) (a1 e_i)))) (e_fn F__law_mixed hr (ac (e_v 0) (a1 e_i)))) (e_op zdh e_i (e_op zdv e_i e_i))) (e_op zdv e_i e_i)))))),?_⟩
  refine ⟨_,rfl,_,_,rfl,rfl,pz,rfl,_,rfl,?_⟩
  refine ite2 (fun _=>?_) (fun _=>?_)
  ·exact ⟨_,rfl,_,_,rfl,rfl,⟨by decide,by decide⟩,_,_,rfl,rfl,pz,_,_,rfl,rfl,q _⟩
  refine ⟨_,rfl,_,_,rfl,rfl,⟨by decide,by decide,by decide⟩,_,_,rfl,rfl,_,rfl,?_⟩
  refine ite2 (fun _=>?_) (fun _=>?_)
  ·exact ⟨_,rfl,_,_,rfl,rfl,⟨by decide,by decide⟩,_,_,rfl,rfl,⟨by decide,by decide,by decide⟩,_,_,rfl,rfl,.inl ⟨by decide,by decide⟩,_,_,rfl,rfl,by show (0:Int) < 2 * 10 ^ (26:Int).toNat; decide,_,_,rfl,rfl,⟨by decide,by decide,by decide⟩,_,_,rfl,rfl,q _⟩
  ·refine ⟨_,rfl,c,60,rfl,by decide,by decide,fun r1 a1 b1=>⟨_,rfl,c,61,rfl,by decide,by decide,fun r2 a2 b2=>⟨_,_,rfl,rfl,.inr ⟨by omega,by omega⟩,_,rfl,c,62,rfl,by decide,by decide,fun r3 a3 b3=>⟨_,_,rfl,rfl,.inr ⟨by omega,by omega⟩,?_⟩⟩⟩⟩
   exact ⟨_,_,rfl,rfl,⟨by decide,by decide,by decide⟩,_,_,rfl,rfl,.inl ⟨by decide,by decide⟩,_,_,rfl,rfl,by show (0:Int) < 2 * 10 ^ (26:Int).toNat; decide,_,_,rfl,rfl,⟨by decide,by decide,by decide⟩,_,_,rfl,rfl,q _⟩
end
theorem zom {l : List Stt} (hl : Can l) : ∀ {t : List Stt}, (∀ s ∈ t, okS s) → (∀ m, zac m l = zac m t) → l.length ≤ t.length := by
  induction l with
  | nil=>intro t _ _; exact Nat.zero_le _
  | cons s l ih =>
    intro t ok eq
    have os:=hl.1 s List.mem_cons_self
    obtain ⟨m0,hm0⟩ : ∃ m,inS m s = true:=by
      obtain ⟨m,hm⟩:=zcW (r:=[]) os
      exact ⟨m, by rcases zaE.mp hm with z | z; · exact z
                   · cases z⟩
    have h0:zac m0 t = true:=by rw [← eq]; exact zaE.mpr (.inl hm0)
    obtain ⟨f0,hf0,hi0⟩:=zam.mp h0
    rcases s with ⟨a,e⟩
    cases e with
    | none =>
      have:l = []:=by
        cases l with
        | nil=>rfl
        | cons q l=>obtain ⟨b,_,z,_⟩:=(List.pairwise_cons.mp hl.2).1 q List.mem_cons_self; cases z
      rw [this]
      exact List.length_pos_of_mem hf0
    | some b =>
      have far:∀ q ∈ l,∃ c,q.1 = some c ∧ b < c:=fun q hq=>by
        obtain ⟨b',c,z1,z2,z3⟩:=(List.pairwise_cons.mp hl.2).1 q hq
        cases z1
        exact ⟨c,z2,z3⟩
      have nl:∀ m,m ≤ b → zac m l = false:=fun m hm=>by
        cases v:zac m l with
        | false=>rfl
        | true =>
          obtain ⟨q,hq,hi⟩:=zam.mp v
          obtain ⟨c,e1,e2⟩:=far q hq
          have:=(zaz.mp hi).1 c e1
          omega
      have nb:zac b t = false:=by
        rw [← eq]
        cases v:zac b ((a,some b) :: l) with
        | false=>rfl
        | true =>
          rcases zaE.mp v with z | z
          · have:=(zaz.mp z).2 b rfl; omega
          · rw [nl b (Int.le_refl _)] at z; cases z
      have mb:m0 < b:=(zaz.mp hm0).2 b rfl
      let p:Stt → Bool:=fun f=>match f.1 with | none=>false | some c=>decide (b < c)
      have pt:∀ f,p f = true ↔ ∃ c,f.1 = some c ∧ b < c:=fun f=>by
        show (match f.1 with | none=>false | some c=>decide (b < c)) = true ↔ _
        cases f.1 with
        | none=>simp
        | some c=>simp
      have split:∀ f ∈ t,p f = true ∨ ∃ c,f.2 = some c ∧ c ≤ b:=fun f hf=>by
        cases v:p f with
        | true=>exact .inl rfl
        | false =>
          refine .inr ?_
          have nf : ¬ inS b f = true:=fun z=>by rw [zam.mpr ⟨f,hf,z⟩] at nb; cases nb
          have nfp : ¬ ∃ c,f.1 = some c ∧ b < c:=fun z=>by rw [(pt f).mpr z] at v; cases v
          cases h2:f.2 with
          | none=>exact absurd (zaz.mpr ⟨fun x hx=>by
              by_cases c:x ≤ b
              · exact c
              · exact absurd ⟨x,hx,by omega⟩ nfp,fun x hx=>by rw [h2] at hx; cases hx⟩) nf
          | some c =>
            refine ⟨c,rfl,?_⟩
            by_cases cc:c ≤ b
            · exact cc
            · exact absurd (zaz.mpr ⟨fun x hx=>by
                by_cases c:x ≤ b
                · exact c
                · exact absurd ⟨x,hx,by omega⟩ nfp,fun x hx=>by rw [h2] at hx; cases hx; omega⟩) nf
      have eqR:∀ m,zac m l = zac m (t.filter p):=fun m=>by
        by_cases c:m ≤ b
        · rw [nl m c]
          cases v:zac m (t.filter p) with
          | false=>rfl
          | true =>
            obtain ⟨f,hf,hi⟩:=zam.mp v
            obtain ⟨x,e1,e2⟩:=(pt f).mp (List.mem_filter.mp hf).2
            have:=(zaz.mp hi).1 x e1
            omega
        · have e1:zac m ((a,some b) :: l) = zac m l:=by
            rw [Bool.eq_iff_iff,zaE]
            exact ⟨fun z=>z.elim (fun z=>by have:=(zaz.mp z).2 b rfl; omega) id,.inr⟩
          rw [← e1,eq,Bool.eq_iff_iff,zam,zam]
          constructor
          · rintro ⟨f,hf,hi⟩
            rcases split f hf with z | ⟨x,z1,z2⟩
            · exact ⟨f,List.mem_filter.mpr ⟨hf,z⟩,hi⟩
            · have:=(zaz.mp hi).2 x z1; omega
          · rintro ⟨f,hf,hi⟩
            exact ⟨f,(List.mem_filter.mp hf).1,hi⟩
      have h1:=ih hl.tail (t:=t.filter p) (fun f hf=>ok f (List.mem_filter.mp hf).1) eqR
      have h2:(t.filter p).length < t.length:=List.length_filter_lt_length_iff_exists.mpr ⟨f0,hf0,fun z=>by
        obtain ⟨x,e1,e2⟩:=(pt f0).mp z
        have:=(zaz.mp hi0).1 x e1
        omega⟩
      show l.length + 1 ≤ t.length
      omega
theorem zjS (f:Fact) (fs:List Fact) (r:List Int) : (told (f :: fs) r).length = (if f.1 = r then 1 else 0) + (told fs r).length:=by
 unfold told
 rw [List.length_map,List.length_map,List.filter_cons]
 by_cases c:f.1 = r
 ·simp [c]; omega
 ·simp [c]
theorem one_le {rs:List (List Int)} (nd:rs.Nodup) (x:List Int) : (rs.map fun r=>if x = r then 1 else 0).sum ≤ 1:=by
 induction rs with
 | nil=>exact Nat.zero_le _
 | cons r rs ih =>
  obtain ⟨n1,n2⟩:=List.nodup_cons.mp nd
  rw [List.map_cons,List.sum_cons]
  by_cases c:x = r
  ·have z:∀ l:List (List Int),x ∉ l → (l.map fun r=>if x = r then 1 else 0).sum = 0:=fun l=>by
    induction l with
    | nil=>intro _; rfl
    | cons y l ih=>intro h; rw [List.map_cons,List.sum_cons,ih fun z=>h (List.mem_cons_of_mem _ z),if_neg (fun (z:x = y)=>h (z ▸ List.mem_cons_self))]
   rw [if_pos c,z rs (c ▸ n1)]
   exact Nat.le_refl _
  ·rw [if_neg c]; have:=ih n2; omega
theorem zj4 {α:Type} (f g:α → Nat) (l:List α) : (l.map fun b=>f b + g b).sum = (l.map f).sum + (l.map g).sum:=by
 induction l with
 | nil=>rfl
 | cons a l ih=>rw [List.map_cons,List.map_cons,List.map_cons,List.sum_cons,List.sum_cons,List.sum_cons,ih]; omega
theorem zkS {rs:List (List Int)} (nd:rs.Nodup) (fs:List Fact) : (rs.map fun r=>(told fs r).length).sum ≤ fs.length:=by
 induction fs with
 | nil =>
  have:∀ l:List (List Int),(l.map fun r=>(told [] r).length).sum = 0:=fun l=>by
   induction l with
   | nil=>rfl
   | cons y l ih=>rw [List.map_cons,List.sum_cons,ih]; rfl
  rw [this]; exact Nat.le_refl _
 | cons f fs ih =>
  rw [show (rs.map fun r=>(told (f :: fs) r).length) = rs.map fun r=>(if f.1 = r then 1 else 0) + (told fs r).length from List.map_congr_left fun r _=>zjS f fs r,zj4,List.length_cons]
  have:=one_le nd f.1
  omega
theorem zhs (es:List Ent) : (zak es).length = (allS es).length:=by
 unfold zak allS
 induction es with
 | nil=>rfl
 | cons e es ih=>rw [List.flatMap_cons,List.flatMap_cons,List.length_append,List.length_append,List.length_map,ih]
theorem zmU {f:Ent → Nat} {es:List Ent} (h:∀ e ∈ es,e.2.length ≤ f e) : (allS es).length ≤ (es.map f).sum:=by
 unfold allS
 induction es with
 | nil=>exact Nat.le_refl _
 | cons e es ih =>
  rw [List.flatMap_cons,List.length_append,List.map_cons,List.sum_cons]
  have:=h e List.mem_cons_self
  have:=ih fun x hx=>h x (List.mem_cons_of_mem _ hx)
  omega
theorem zen {fs:List Fact} {es:List Ent} (ok:∀ f ∈ fs,okS f.2) (h:ShB (fun r m=>zac m (told fs r)) es) : (allS es).length ≤ fs.length:=by
 have h1:=zmU (f:=fun e=>(told fs e.1).length) (es:=es) fun e he=>zom (h.can e he) (fun s hs=>ok _ (zaF.mp hs)) (h.sp e he)
 have h2:=zkS h.nd fs
 rw [List.map_map] at h2
 exact Nat.le_trans h1 h2
def grp (cs:List Nat) (es:List Ent) (c:List Int) : List Ent:=es.filter fun e=>decide (pick cs e.1 = c)
def cntG (cs:List Nat) (es:List Ent) (c:List Int) (m:Int) : Nat:=cntE (grp cs es c) m
theorem zkw (cs:List Nat) (es:List Ent) (e:Ent) (c:List Int) : grp cs (es ++ [e]) c = grp cs es c ++ if pick cs e.1 = c then [e] else []:=by
 unfold grp
 rw [List.filter_append]
 congr 1
 by_cases h:pick cs e.1 = c <;> simp [h]
theorem zkb (cs:List Nat) (es:List Ent) (c:List Int) : (allS (grp cs es c)).length ≤ (allS es).length:=by
 unfold grp allS
 induction es with
 | nil=>exact Nat.le_refl _
 | cons e es ih =>
  rw [List.filter_cons,List.flatMap_cons,List.length_append]
  split
  ·rw [List.flatMap_cons,List.length_append]; omega
  ·omega
abbrev Gd:=List (List Int × Addr × List Ent)
def zch (gd:Gd) : List (List Key × V):=gd.map fun g=>(g.1.map Sum.inl,V.ref g.2.1)
def gdTd (gd:Gd) : Td:=gd.map fun g=>(g.1,g.2.1,[])
theorem zhw (gd:Gd) : zcd (gdTd gd) = zch gd:=by unfold zcd gdTd zch; rw [List.map_map]; rfl
theorem zgG (gd:Gd) : (gdTd gd).map (·.1) = gd.map (·.1):=by unfold gdTd; rw [List.map_map]; rfl
theorem zlm {gd:Gd} (nd:(gd.map (·.1)).Nodup) {g:List Int × Addr × List Ent} (hg:g ∈ gd) : valV (zch gd) (g.1.map Sum.inl) = some (.ref g.2.1):=by
 rw [← zhw]
 exact zhy (td:=gdTd gd) (by rw [zgG]; exact nd) (q:=(g.1,g.2.1,[])) (List.mem_map.mpr ⟨g,hg,rfl⟩)
theorem zjw {gd:Gd} {k:List Int} (h:k ∉ gd.map (·.1)) : valV (zch gd) (k.map Sum.inl) = none:=by
 rw [← zhw]
 exact zfk (by rw [zgG]; exact h)
structure GdE (H0 H:Hp) (d:Addr) (gd:Gd) : Prop where
 at':H d = some (.dT (zch gd))
 kn:(gd.map (·.1)).Nodup
 ls:∀ g ∈ gd,∃ us,H g.2.1 = some (.lst us) ∧ Paired (EntS H fun q=>H0 q ≠ none) us g.2.2
 nw:∀ g ∈ gd,H0 g.2.1 = none
 nd:(gd.map (·.2.1)).Nodup
 sm:Same H0 H
 fr:H0 d = none
section
variable {H0 H H':Hp} {d:Addr} {gd l1 l2:Gd}
theorem GdE.same (h:GdE H0 H d gd) (s:Same H H') : GdE H0 H' d gd :=
 ⟨s _ _ h.at',h.kn,fun g hg=>let ⟨us,a,b⟩:=h.ls g hg; ⟨us,s _ _ a,Paired.mapP b fun _ _ z=>z.same s⟩,h.nw,h.nd,h.sm.trans s,h.fr⟩
theorem GdE.app {g:List Int × Addr × List Ent} {us:List V} {v:V} {e:Ent} (h:GdE H0 H d (l1 ++ g :: l2)) (hus:H g.2.1 = some (.lst us)) (hv:EntS H (fun q=>H0 q ≠ none) v e) :
  GdE H0 (upd H g.2.1 (.lst (us ++ [v]))) d (l1 ++ (g.1,g.2.1,g.2.2 ++ [e]) :: l2):=by
 have nt:=zaJ hus
 have hg:g ∈ l1 ++ g :: l2:=List.mem_append_right _ List.mem_cons_self
 have nS : ¬ (H0 g.2.1 ≠ none):=fun z=>z (h.nw g hg)
 have nd:=h.nd
 rw [List.map_append,List.map_cons] at nd
 obtain ⟨n1,n2,n3⟩:=List.nodup_append.mp nd
 obtain ⟨n4,n5⟩:=List.nodup_cons.mp n2
 have ndg:d ≠ g.2.1:=zbt h.at' hus (fun z=>nomatch z)
 have keepE:∀ {vs:List V} {es:List Ent},Paired (EntS H fun q=>H0 q ≠ none) vs es → Paired (EntS (upd H g.2.1 (.lst (us ++ [v]))) fun q=>H0 q ≠ none) vs es:=fun {vs es} z=>Paired.mapP z fun _ _ y=>y.wr nt nS
 refine ⟨?_,?_,fun g' hg'=>?_,fun g' hg'=>?_,?_,h.sm.upd (h.nw g hg),h.fr⟩
 ·rw [zai ndg,h.at']
  unfold zch
  rw [List.map_append,List.map_append,List.map_cons,List.map_cons]
 ·have:=h.kn
  rw [List.map_append,List.map_cons] at this ⊢
  exact this
 ·obtain ⟨us0,a0,b0⟩:=h.ls g hg
  rw [hus] at a0
  cases a0
  have old:∀ g' ∈ l1 ++ l2,g'.2.1 ≠ g.2.1:=fun g' hg' z=>by
   rcases List.mem_append.mp hg' with q | q
   ·exact n3 _ (List.mem_map_of_mem q) _ List.mem_cons_self z
   ·exact n4 (z ▸ List.mem_map_of_mem q)
  have other:g' ∈ l1 ++ l2 → ∃ us',upd H g.2.1 (.lst (us ++ [v])) g'.2.1 = some (.lst us') ∧ Paired (EntS (upd H g.2.1 (.lst (us ++ [v]))) fun q=>H0 q ≠ none) us' g'.2.2:=fun q=>by
   have hm:g' ∈ l1 ++ g :: l2:=by
    rcases List.mem_append.mp q with z | z
    ·exact List.mem_append_left _ z
    ·exact List.mem_append_right _ (List.mem_cons_of_mem _ z)
   obtain ⟨us1,a1,b1⟩:=h.ls g' hm
   exact ⟨us1,by rw [zai (old g' q)]; exact a1,keepE b1⟩
  rcases List.mem_append.mp hg' with q | q
  ·exact other (List.mem_append_left _ q)
  ·rcases List.mem_cons.mp q with q | q
   ·subst q
    exact ⟨_,zaa,zah (R:=EntS (upd H g.2.1 (.lst (us ++ [v]))) fun q=>H0 q ≠ none) (hv.wr nt nS) (keepE b0)⟩
   ·exact other (List.mem_append_right _ q)
 ·rcases List.mem_append.mp hg' with q | q
  ·exact h.nw g' (List.mem_append_left _ q)
  ·rcases List.mem_cons.mp q with q | q
   ·subst q; exact h.nw g hg
   ·exact h.nw g' (List.mem_append_right _ (List.mem_cons_of_mem _ q))
 ·have:=h.nd
  rw [List.map_append,List.map_cons] at this ⊢
  exact this
theorem GdE.new {z:Addr} {k:List Int} (h:GdE H0 H d gd) (hz:H z = some (.lst [])) (hz0:H0 z = none) (nz:z ∉ gd.map (·.2.1)) (nk:k ∉ gd.map (·.1)) :
  GdE H0 (upd H d (.dT (putK (zch gd) (k.map Sum.inl) (.ref z)))) d (gd ++ [(k,z,[])]):=by
 have nt:∀ xs,H d ≠ some (.tup xs):=fun xs q=>by rw [h.at'] at q; cases q
 have nS : ¬ (H0 d ≠ none):=fun z=>z h.fr
 have ndl:∀ {q:Addr} {us:List V},H q = some (.lst us) → q ≠ d:=fun {q us} hq=>zbt hq h.at' (fun z=>nomatch z)
 refine ⟨?_,?_,fun e he=>?_,fun e he=>?_,?_,h.sm.upd h.fr,h.fr⟩
 ·rw [zaa,zhu _ (zjw nk)]; unfold zch; rw [List.map_append]; rfl
 ·rw [List.map_append,List.nodup_append]
  exact ⟨h.kn,by simp,fun a ha b hb=>by
   have:b = k:=by simpa using hb
   subst this; exact fun q=>nk (q ▸ ha)⟩
 ·rcases List.mem_append.mp he with q | q
  ·obtain ⟨us,a,b⟩:=h.ls e q
   exact ⟨us,by rw [zai (ndl a)]; exact a,Paired.mapP b fun _ _ y=>y.wr nt nS⟩
  ·rw [List.mem_singleton.mp q]
   exact ⟨[],by rw [zai (ndl hz)]; exact hz,.nil⟩
 ·rcases List.mem_append.mp he with q | q
  ·exact h.nw e q
  ·rw [List.mem_singleton.mp q]; exact hz0
 ·rw [List.map_append,List.nodup_append]
  exact ⟨h.nd,by simp,fun a ha b hb=>by
   have:b = z:=by simpa using hb
   subst this; exact fun q=>nz (q ▸ ha)⟩
end
def Gds (cs:List Nat) (H0 H:Hp) (d:Addr) (es:List Ent) : Prop:=∃ gd,GdE H0 H d gd ∧ (∀ g ∈ gd,g.2.2 = grp cs es g.1) ∧ (∀ r,r ∈ gd.map (·.1) ↔ ∃ e ∈ es,pick cs e.1 = r) ∧ gd.length ≤ es.length
structure GFs (cs:List Nat) (T:Nat) (gd:Gd) (fs:List Fact) : Prop where
 sem:∀ r m,(∃ f ∈ fs,f.1 = r ∧ inS m f.2 = true) ↔ ∃ g ∈ gd,r = g.1 ++ [(cntE g.2.2 m:Int)] ∧ 0 < cntE g.2.2 m
 ok:∀ f ∈ fs,okS f.2
 wid:∀ f ∈ fs,f.1.length = cs.length + 1
 len:fs.length ≤ gd.length * (2 * T + 1)
theorem GFs.add {cs:List Nat} {T:Nat} {gd:Gd} {fs:List Fact} {g:List Int × Addr × List Ent} {pcs:List Pc} (h:GFs cs T gd fs) (hp:Pcs g.2.2 pcs) (hT:(allS g.2.2).length ≤ T) (hw:g.1.length = cs.length) :
  GFs cs T (gd ++ [g]) (fs ++ pcs.map fun p=>(g.1 ++ [p.1],p.2)):=by
 refine ⟨fun r m=>?_,fun f hf=>?_,fun f hf=>?_,?_⟩
 ·constructor
  ·rintro ⟨f,hf,e,hm⟩
   rcases List.mem_append.mp hf with z | z
   ·obtain ⟨g',hg',q⟩:=(h.sem r m).mp ⟨f,z,e,hm⟩
    exact ⟨g',List.mem_append_left _ hg',q⟩
   ·obtain ⟨p,hpm,rfl⟩:=List.mem_map.mp z
    obtain ⟨q1,q2⟩:=(hp.sem m p.1).mp ⟨p,hpm,rfl,hm⟩
    refine ⟨g,List.mem_append_right _ List.mem_cons_self,?_,by omega⟩
    rw [← e,← q1]
  ·rintro ⟨g',hg',e,hc⟩
   rcases List.mem_append.mp hg' with z | z
   ·obtain ⟨f,hf,q⟩:=(h.sem r m).mpr ⟨g',z,e,hc⟩
    exact ⟨f,List.mem_append_left _ hf,q⟩
   ·rw [List.mem_singleton.mp z] at e hc
    obtain ⟨p,hpm,q1,q2⟩:=(hp.sem m (cntE g.2.2 m)).mpr ⟨rfl,by omega⟩
    exact ⟨_,List.mem_append_right _ (List.mem_map_of_mem hpm),by rw [e,← q1],q2⟩
 ·rcases List.mem_append.mp hf with z | z
  ·exact h.ok f z
  ·obtain ⟨p,hpm,rfl⟩:=List.mem_map.mp z
   exact hp.ok p hpm
 ·rcases List.mem_append.mp hf with z | z
  ·exact h.wid f z
  ·obtain ⟨p,hpm,rfl⟩:=List.mem_map.mp z
   show (g.1 ++ [p.1]).length = _
   rw [List.length_append,hw]; rfl
 ·rw [List.length_append,List.length_append,List.length_map,List.length_singleton,Nat.add_mul,Nat.one_mul]
  have:=h.len
  have:=hp.len
  omega
def grpF (cs:List Nat) (es:List Ent) (r:List Int) (m:Int) : Bool:=decide (0 < cntG cs es r.dropLast m ∧ r = r.dropLast ++ [(cntG cs es r.dropLast m:Int)])
theorem zfW {cs:List Nat} {es:List Ent} {r:List Int} {m:Int} : grpF cs es r m = true ↔ ∃ c,r = c ++ [(cntG cs es c m:Int)] ∧ 0 < cntG cs es c m:=by
 unfold grpF
 rw [decide_eq_true_iff]
 constructor
 ·rintro ⟨a,b⟩; exact ⟨_,b,a⟩
 ·rintro ⟨c,e,h⟩
  have:r.dropLast = c:=by rw [e,List.dropLast_concat]
  rw [this]; exact ⟨h,e⟩
theorem zkg {cs:List Nat} {T:Nat} {H0 H:Hp} {d:Addr} {es:List Ent} {gd:Gd} {fs:List Fact} (F:GFs cs T gd fs) (hg:∀ g ∈ gd,g.2.2 = grp cs es g.1) (hk:∀ r,r ∈ gd.map (·.1) ↔ ∃ e ∈ es,pick cs e.1 = r) (r:List Int) (m:Int) : zac m (told fs r) = grpF cs es r m:=by
 rw [Bool.eq_iff_iff,zfW,zam]
 have e1:(∃ s ∈ told fs r,inS m s = true) ↔ ∃ f ∈ fs,f.1 = r ∧ inS m f.2 = true :=
  ⟨fun ⟨s,hs,hm⟩=>⟨(r,s),zaF.mp hs,rfl,hm⟩,fun ⟨f,hf,e,hm⟩=>⟨f.2,zaF.mpr (by rw [← e]; exact hf),hm⟩⟩
 rw [e1,F.sem]
 constructor
 ·rintro ⟨g,hgm,e,hc⟩
  rw [hg g hgm] at e hc
  exact ⟨g.1,e,hc⟩
 ·rintro ⟨c,e,hc⟩
  have hc':0 < (((grp cs es c).filter fun e=>zac m e.2)).length:=hc
  obtain ⟨x,hx⟩:=List.exists_mem_of_length_pos hc'
  have hx2:=List.mem_filter.mp (List.mem_filter.mp hx).1
  obtain ⟨g,hgm,rfl⟩:=List.mem_map.mp ((hk c).mpr ⟨x,hx2.1,of_decide_eq_true hx2.2⟩)
  refine ⟨g,hgm,?_,?_⟩
  ·rw [hg g hgm]; exact e
  ·rw [hg g hgm]; exact hc
theorem zif {H:Hp} {q:Addr} {ss:List Stt} (h:SpanAt H q ss) : H q ≠ none:=by
 obtain ⟨_,z1,_⟩:=h
 rw [z1]
 exact fun z=>by cases z
section
variable {P:Program} {w:World} {K:PySem.W.Frag} {mg:Str → Option Value} {base:Heap}
def za2:Sp:=fun vs H Q _=>∃ (c l a:Addr) (cs:List Nat) (es:List Ent) (L:Nat),vs = [.ref c,.ref l,.ref a] ∧ H c = some (.lst (colV cs)) ∧ SumsAt H l ∧ SheetAt H a es ∧ (∀ e ∈ es,Can e.2) ∧ (∀ e ∈ es,e.1.length = L) ∧ (∀ i ∈ cs,i < L) ∧ cs ≠ [] ∧ cs.length ≤ 50 ∧ es.length ≤ 5 ∧ (allS es).length ≤ 5 ∧
 ∀ (D:Addr) (H':Hp) (rf:List Ent),Same H H' → H D = none → SheetN H H' D rf → ShB (grpF cs es) rf → (allS rf).length < 64 → (∀ e ∈ rf,e.1.length = cs.length + 1) → Q (.ref D) H'
theorem zbx:FnScope ["columns","sums","sheet","groups","row","span","facts","cells"] ["columns","sums","sheet"] (zad za4):=⟨rfl,rfl,rfl,by decide +kernel,rfl,by decide +kernel,by decide +kernel⟩
theorem zcN {f:Addr} {fd:FuncData} (F:Fun K "groups_over_time" "groups_over_time" za4 f fd) (F_cells_in:FnP P w K mg base 1 "cells_in" ["row","columns"] zcR) (F_tallied:FnP P w K mg base 3 "tallied" ["sums","entries"] zds) (F_sheet_of:FnP P w K mg base 5 "sheet_of" ["facts"] zb3) : FnOk P w K mg base CX0 6 f fd ["columns","sums","sheet"] za2:=by
 refine F.okJ zbx (fun vs H Q E h=>?_) (fun cdv A outer s H vs Q E hr h=>?_)
 ·obtain ⟨_,_,_,_,_,_,rfl,_⟩:=h
  rfl
 ·obtain ⟨c,l,a,cs,es,L,rfl,hc,sums,⟨xs,ha,px⟩,can,wid,sub,ne,l50,e5,f5,k⟩:=h
  have nd:=zbx.nd
  have nd4:(["told","start","end","cells"] : List Str).Nodup:=by decide +kernel
  refine ⟨_,(zab (zhL 3 nd ziL)
   (zab (zbd (zat (e_v 2)) (zbv (zaf (g_n 4 nd) (zaf (g_n 5 nd) zaR)))
    (zag (zdB (zhz hr (e_v 3) (ac (e_fn F_cells_in hr (ac (e_v 4) (a1 (e_v 0)))) (a1 (zbl a0)))) (zbs (ac (e_v 4) (a1 (e_v 5)))))))
   (zab (zar 6 nd (zbl a0))
   (zab (zbd (zm4 (e_v 3)) (g_n 7 nd)
    (zag (zn5 (e_v 6) (a1c (zaZ (Nc:=["told","start","end","cells"]) (js:=[none,none,none,some 7]) (g:=(gTup K 3 (zbp (zaw 0) (zbp (zaw 1) (zbp (zaw 2) gNil))))) (tt:=tYes) (te:=(tTup (zal (tOp (zmx K) (tVar 3) (tVar 0)) (zal (tVar 1) (zal (tVar 2) tNil)))))
   (zaB rfl rfl rfl rfl (fun x c h=>by (obtain ⟨rfl,rfl⟩ : x = _ ∧ c = _:=(by simpa using h)); rfl) rfl rfl rfl) (zat (e_fn F_tallied hr (ac (e_v 1) (a1 (zjX hr (e_v 3) (e_v 7))))))
   (fun pins C s3 H3 fp=>⟨(zbv (zaf (g_n 0 nd4) (zaf (g_n 1 nd4) (zaf (g_n 2 nd4) zaR)))),.inl ⟨rfl,rfl⟩,(zbs (ac (e_op zoq (e_v 3) (e_v 0)) (ac (e_v 1) (a1 (e_v 2)))))⟩))))))
   (zag (zau (e_fn F_sheet_of hr (a1 (e_v 6))))))))),?_⟩
  have lx:xs.length = es.length:=Paired.length px
  have lcs:0 < cs.length:=List.length_pos_iff.mpr ne
  refine fun d hd=>?_
  have G0:GdE H (upd H d (.dT [])) d []:=⟨zaa,.nil,(fun g h=>nomatch h),(fun g h=>nomatch h),.nil,(Same.refl H).upd hd,hd⟩
  generalize upd H d (.dT []) = H1 at G0 ⊢
  refine ⟨_,rfl,a,rfl,⟨xs,SqL.of (G0.sm _ _ ha)⟩,zaA (K:=K) (a:=a) (xs:=xs) (fun i σ H'=>∃ (o4 o5:Option V),σ = [some (.ref c),some (.ref l),some (.ref a),some (.ref d),o4,o5,none,none] ∧ Gds cs H H' d (es.take i))
   ⟨none,none,rfl,[],G0,(fun g h=>nomatch h),fun r=>⟨(fun z=>nomatch z),fun ⟨_,z,_⟩=>nomatch z⟩,Nat.zero_le _⟩ (fun i σ H' _ ⟨_,_,_,_,G,_⟩=>SqL.of (G.sm _ _ ha)) ?_ ?_⟩
  ·rintro i x σ H2 hx ⟨o4,o5,rfl,gd,G,hg,hk,lg⟩
   obtain ⟨e,he,t,p,q,rfl,ht,hp,hq⟩:=zaj px hx
   have hem:=List.mem_of_getElem? he
   have hi:=(List.getElem?_eq_some_iff.mp he).1
   have sm:=G.sm
   refine ⟨t,_,rfl,SqT.of (sm _ _ ht),rfl,_,_,rfl,_,_,rfl,rfl,?_⟩
   refine ⟨_,rfl,.inr (.inr (.inl ⟨rfl,.inr ⟨_,G.at'⟩⟩)),_,rfl,_,rfl,p,c,e.1,cs,rfl,sm _ _ hp,sm _ _ hc,fun i hi=>by rw [wid e hem]; exact sub i hi,l50,fun u H3 s3 hu h3=>⟨Nat.zero_le _,fun z hz=>?_⟩⟩
   have s4:Same H3 (upd H3 z (.lst [])):=(Same.refl H3).upd hz
   have u4:upd H3 z (.lst []) z = some (.lst []):=zaa
   generalize upd H3 z (.lst []) = H4 at s4 u4 ⊢
   have s24:=s3.trans s4
   have G4:=G.same s24
   have htup:H4 u = some (.tup (((pick cs e.1).map Sum.inl:List Key).map kV)):=by rw [zdl]; exact s4 _ _ h3
   have lg5:gd.length ≤ 5:=by rw [List.length_take] at lg; omega
   have lk:(zch gd).length < sizeLine:=by unfold zch; rw [List.length_map]; exact zae (by omega)
   have app:∀ (H5:Hp) (m1:Gd) (g:List Int × Addr × List Ent) (m2:Gd),GdE H H5 d (m1 ++ g :: m2) → g.1 = pick cs e.1 → (∀ g' ∈ m1 ++ g :: m2,g'.2.2 = grp cs (es.take i) g'.1) → (∀ r,r ∈ (m1 ++ g :: m2).map (·.1) ↔ (∃ e ∈ es.take i,pick cs e.1 = r) ∨ r = pick cs e.1) → (m1 ++ g :: m2).length ≤ i + 1 →
     (tyV K "list" (.ref g.2.1) H5 ∧ zal (tTup (zal (tVar 4) (zal (tVar 5) tNil))) tNil [some (.ref c),some (.ref l),some (.ref a),some (.ref d),some (.ref p),some (.ref q),none,none] H5 fun xs H6=>zbG (.ref g.2.1) xs H6 fun _ H7 =>
      ∃ (o4 o5:Option V),[some (V.ref c),some (.ref l),some (.ref a),some (.ref d),some (.ref p),some (.ref q),none,none] = [some (.ref c),some (.ref l),some (.ref a),some (.ref d),o4,o5,none,none] ∧ Gds cs H H7 d (es.take (i + 1))):=by
    intro H5 m1 g m2 G5 eg hg5 hk5 lg5
    have hgm:g ∈ m1 ++ g :: m2:=List.mem_append_right _ List.mem_cons_self
    obtain ⟨us,hus,pus⟩:=G5.ls g hgm
    refine ⟨.inl ⟨rfl,_,SqL.of hus⟩,_,rfl,_,rfl,by show 2 ≤ sizeLine; decide,fun v hv=>?_⟩
    have s6:Same H5 (upd H5 v (.tup [.ref p,.ref q])):=(Same.refl H5).upd hv
    have u6:upd H5 v (.tup [.ref p,.ref q]) v = some (.tup [.ref p,.ref q]):=zaa
    generalize upd H5 v (.tup [.ref p,.ref q]) = H6 at s6 u6 ⊢
    have G6:=G5.same s6
    have ev:EntS H6 (fun q=>H q ≠ none) (.ref v) e:=⟨v,p,q,rfl,u6,G6.sm _ _ hp,hq.same G6.sm,zif hq⟩
    have lus:us.length ≤ 5:=by
     rw [Paired.length pus,hg5 g hgm]
     have:(grp cs (es.take i) g.1).length ≤ (es.take i).length:=List.length_filter_le _ _
     rw [List.length_take] at this
     omega
    have key1:∀ r,r ∈ (m1 ++ (g.1,g.2.1,g.2.2 ++ [e]) :: m2).map (·.1) ↔ r ∈ (m1 ++ g :: m2).map (·.1):=fun r=>by rw [List.map_append,List.map_append,List.map_cons,List.map_cons]
    refine ⟨g.2.1,us,_,rfl,rfl,s6 _ _ hus,zae (by omega),_,_,rfl,_,G6.app (s6 _ _ hus) ev,fun g' hg'=>?_,fun r=>?_,?_⟩
    ·rw [take_snoc he,zkw]
     have kn:=G5.kn
     rw [List.map_append,List.map_cons] at kn
     obtain ⟨_,n2,n3⟩:=List.nodup_append.mp kn
     obtain ⟨n4,_⟩:=List.nodup_cons.mp n2
     rcases List.mem_append.mp hg' with z | z
     ·rw [if_neg (fun y=>n3 _ (List.mem_map_of_mem z) _ List.mem_cons_self (by rw [eg]; exact y.symm)),List.append_nil]
      exact hg5 g' (List.mem_append_left _ z)
     ·rcases List.mem_cons.mp z with z | z
      ·subst z
       show g.2.2 ++ [e] = grp cs (es.take i) g.1 ++ if pick cs e.1 = g.1 then [e] else []
       rw [if_pos eg.symm,hg5 g hgm]
      ·rw [if_neg (fun y=>n4 (by rw [eg,y]; exact List.mem_map_of_mem z)),List.append_nil]
       exact hg5 g' (List.mem_append_right _ (List.mem_cons_of_mem _ z))
    ·rw [key1,hk5,take_snoc he]
     constructor
     ·rintro (⟨e',h1,h2⟩ | z)
      ·exact ⟨e',List.mem_append_left _ h1,h2⟩
      ·exact ⟨e,List.mem_append_right _ List.mem_cons_self,z.symm⟩
     ·rintro ⟨e',h1,h2⟩
      rcases List.mem_append.mp h1 with z | z
      ·exact .inl ⟨e',z,h2⟩
      ·rw [List.mem_singleton.mp z] at h2; exact .inr h2.symm
    ·rw [List.length_append,List.length_cons] at lg5 ⊢
     rw [List.length_take]; omega
   have lti:(es.take i).length = i:=by rw [List.length_take]; omega
   refine ⟨d,u,.ref z,zch gd,(pick cs e.1).map Sum.inl,rfl,rfl,G4.at',htup,lk,?_⟩
   by_cases hr':pick cs e.1 ∈ gd.map (·.1)
   ·obtain ⟨g,hgm,eg⟩:=List.mem_map.mp hr'
    have hv:=zlm G4.kn hgm
    rw [eg] at hv
    rw [hv]
    obtain ⟨m1,m2,rfl⟩:=List.append_of_mem hgm
    exact app H4 m1 g m2 G4 eg hg (fun r=>by rw [hk]; exact ⟨.inl,fun y=>y.elim id fun y=>(hk r).mp (y ▸ hr')⟩) (by omega)
   ·rw [zjw hr']
    have fz:H z = none:=(sm.trans s3).free hz
    have nz:z ∉ gd.map (·.2.1):=fun y=>by
     obtain ⟨g,hgm,e'⟩:=List.mem_map.mp y
     obtain ⟨_,e2,_⟩:=G.ls g hgm
     rw [e',← e'] at e2
     have:=s3 _ _ e2
     rw [e',hz] at this
     cases this
    refine app _ gd (pick cs e.1,z,[]) [] (G4.new u4 fz nz hr') rfl (fun g' hg'=>?_) (fun r=>?_) (by rw [List.length_append,List.length_singleton]; omega)
    ·rcases List.mem_append.mp hg' with y | y
     ·exact hg g' y
     ·rw [List.mem_singleton.mp y]
      show [] = grp cs (es.take i) (pick cs e.1)
      refine (List.filter_eq_nil_iff.mpr fun e' h1 h2=>hr' ((hk _).mpr ⟨e',h1,of_decide_eq_true h2⟩)).symm
    ·rw [List.map_append,List.mem_append,hk]; simp
  rintro σ H2 ⟨o4,o5,rfl,gd,G,hg,hk,lg⟩
  rw [lx,List.take_length] at hg hk lg
  refine ⟨Nat.zero_le _,fun b hb=>?_⟩
  have s3:Same H2 (upd H2 b (.lst [])):=(Same.refl H2).upd hb
  have u3:upd H2 b (.lst []) b = some (.lst []):=zaa
  generalize upd H2 b (.lst []) = H3 at s3 u3 ⊢
  have G3:=G.same s3
  have hb0:H b = none:=G.sm.free hb
  have ndb:b ≠ d:=zbt u3 G3.at' (fun z=>nomatch z)
  refine ⟨_,rfl,d,d,_,rfl,.inl rfl,.inl ⟨G3.at',fun ob=>?_⟩⟩
  have fz:upd H3 d (.frz ob (.dT (zch gd))) d = some (.frz ob (.dT (zch gd))):=zaa
  have k4:∀ c u,c ≠ d → H3 c = some u → upd H3 d (.frz ob (.dT (zch gd))) c = some u:=fun c u n h=>by rw [zai n]; exact h
  have s04:Same H (upd H3 d (.frz ob (.dT (zch gd)))):=G3.sm.upd G3.fr
  generalize upd H3 d (.frz ob (.dT (zch gd))) = H4 at fz k4 s04 ⊢
  have tup4:∀ {c:Addr} {xs:List V},H3 c = some (.tup xs) → H4 c = some (.tup xs):=fun {c xs} h=>k4 _ _ (zbt h G3.at' (fun z=>nomatch z)) h
  have shs:∀ g ∈ gd,∃ us,H4 g.2.1 = some (.lst us) ∧ Paired (EntS H4 fun q=>H q ≠ none) us g.2.2 ∧ g.2.1 ≠ b:=fun g hgm=>by
   obtain ⟨us,a1,a2⟩:=G3.ls g hgm
   refine ⟨us,k4 _ _ (zbt a1 G3.at' (fun z=>nomatch z)) a1,Paired.mapP a2 fun _ _ ⟨t,p,q,b1,b2,b3,⟨zs,b4,b5⟩,b6⟩=>⟨t,p,q,b1,tup4 b2,tup4 b3,⟨zs,k4 _ _ (zbt b4 G3.at' (fun z=>nomatch z)) b4,Paired.mapP b5 fun _ _ ⟨t,c1,c2⟩=>⟨t,c1,tup4 c2⟩⟩,b6⟩,fun z=>?_⟩
   obtain ⟨us',q1,_⟩:=G.ls g hgm
   rw [z,hb] at q1; cases q1
  have b4:=k4 _ _ ndb u3
  refine zkT (ob:=ob) (ks:=gd.map (·.1)) (by unfold zch; rw [List.map_map,List.map_map]; rfl) (fun i σ H'=>∃ (o7:Option V) (ys:List V) (fs:List Fact),σ = [some (.ref c),some (.ref l),some (.ref a),some (.ref d),o4,o5,some (.ref b),o7] ∧ (∀ c u,c ≠ b → H4 c = some u → H' c = some u) ∧ Same H H' ∧ H' b = some (.lst ys) ∧ Paired (FactAt H') ys fs ∧ GFs cs 5 (gd.take i) fs)
   ⟨none,[],[],rfl,fun _ _ _ h=>h,s04,b4,.nil,fun r m=>⟨(fun ⟨f,h,_⟩=>nomatch h),(fun ⟨g,h,_⟩=>nomatch h)⟩,(fun f h=>nomatch h),(fun f h=>nomatch h),Nat.zero_le _⟩ (fun i σ H' _ ⟨_,_,_,_,kp,_⟩=>kp _ _ ndb.symm fz) ?_ ?_
  ·rintro i x row σ H5 hrow hrx ⟨o7,ys,fs,rfl,kp,s05,b5,pf,F5⟩
   obtain ⟨g,hgi,rfl⟩:=zdW hrow
   obtain ⟨tk,rfl,htk⟩:=hrx
   have hgm:=List.mem_of_getElem? hgi
   have hi:=(List.getElem?_eq_some_iff.mp hgi).1
   obtain ⟨us,hus,pus,nub⟩:=shs g hgm
   have bn : ¬ (H b ≠ none):=fun z=>z hb0
   have sheet5:SheetAt H5 g.2.1 g.2.2:=by
    refine ⟨us,kp _ _ nub hus,Paired.mapP pus fun _ _ ⟨t,p,q,c1,c2,c3,⟨zs,c4,c5⟩,c6⟩=>?_⟩
    have tup5:∀ {c:Addr} {xs:List V},H4 c = some (.tup xs) → H5 c = some (.tup xs):=fun {c xs} h=>kp _ _ (zbt h b4 (fun z=>nomatch z)) h
    exact ⟨t,p,q,c1,tup5 c2,tup5 c3,zs,kp _ _ (fun z=>bn (z ▸ c6)) c4,Paired.mapP c5 fun _ _ ⟨t,d1,d2⟩=>⟨t,d1,tup5 d2⟩⟩
   have lT:(allS g.2.2).length ≤ 5:=by rw [hg g hgm]; exact Nat.le_trans (zkb cs es g.1) f5
   have wg:g.1.length = cs.length:=by
    obtain ⟨e,_,q⟩:=(hk g.1).mp (List.mem_map_of_mem hgm)
    rw [← q]; exact zdM _ _
   have htk':H5 tk = some (.tup ((g.1.map Sum.inl:List Key).map kV)):=by rw [zdl]; exact htk
   have cang:∀ e ∈ g.2.2,Can e.2:=fun e he=>by rw [hg g hgm] at he; exact can e (List.mem_filter.mp he).1
   have lfs:fs.length ≤ 55:=by
    have:=F5.len
    rw [List.length_take] at this
    have:min i gd.length * (2 * 5 + 1) ≤ 5 * 11:=Nat.mul_le_mul (by omega) (by decide)
    omega
   refine ⟨_,rfl,.inl ⟨rfl,_,SqL.of b5⟩,_,rfl,_,rfl,_,rfl,d,_,rfl,.inr ⟨_,_,tk,.inr ⟨ob,kp _ _ ndb.symm fz⟩,rfl,htk',(zlm G3.kn hgm).symm⟩,l,g.2.1,g.2.2,rfl,sums.same s05,sheet5,cang,by omega,fun D H6 zs pcs s6 hD h6 pz PC=>?_⟩
   have lpc:=PC.len
   have lz:zs.length = pcs.length:=Paired.length pz
   refine ⟨D,rfl,⟨zs,SqL.of h6⟩,fun D7 hD7=>?_⟩
   refine zaC (K:=K) (a:=D) (xs:=zs) (fun j _ σ H'=>∃ (o0 o1 o2:Option V) (ws:List V),σ = [o0,o1,o2,some (.ref tk)] ∧ Same H6 H' ∧ H' D7 = some (.lst ws) ∧ Paired (FactAt H') ws ((pcs.take j).map fun p=>(g.1 ++ [p.1],p.2)))
    ⟨none,none,none,[],rfl,(Same.refl H6).upd hD7,zaa,.nil⟩ (fun j _ σ H' _ ⟨_,_,_,_,_,sm,_⟩=>SqL.of (sm _ _ h6)) ?_ ?_
   ·rintro j y _ σ H7 hy ⟨o0,o1,o2,ws,rfl,s7,h7,pw⟩
    obtain ⟨pc,hpc,t,u,rfl,ht,hu⟩:=zaj pz hy
    have hj:=(List.getElem?_eq_some_iff.mp hpc).1
    have s57:=s6.trans s7
    have lw:ws.length = j:=by rw [Paired.length pw,List.length_map,List.length_take]; omega
    refine ⟨t,_,rfl,SqT.of (s7 _ _ ht),rfl,_,_,rfl,_,_,rfl,_,_,rfl,rfl,?_⟩
    refine ⟨_,rfl,_,rfl,tk,u,_,_,rfl,rfl,SqT.of (s57 _ _ htk),SqT.of (s7 _ _ hu),?_,fun z=>?_,(fun _ z=>nomatch z),fun _ _ v hv=>?_⟩
    ·rw [List.length_map,wg]; exact Nat.le_of_lt (zae (by simp; omega))
    ·have:=congrArg List.length z
     rw [List.length_map,wg] at this
     exact absurd this (by simp; omega)
    have ecat:g.1.map V.int ++ [V.int pc.1] = (g.1 ++ [pc.1]).map V.int:=by rw [List.map_append]; rfl
    rw [ecat]
    have s8:Same H7 (upd H7 v (.tup ((g.1 ++ [pc.1]).map V.int))):=(Same.refl H7).upd hv
    have u8:upd H7 v (.tup ((g.1 ++ [pc.1]).map V.int)) v = some (.tup ((g.1 ++ [pc.1]).map V.int)):=zaa
    generalize upd H7 v (.tup ((g.1 ++ [pc.1]).map V.int)) = H8 at s8 u8 ⊢
    refine ⟨_,rfl,_,rfl,by show 3 ≤ sizeLine; decide,fun x hx=>?_⟩
    have s9:Same H8 (upd H8 x (.tup [.ref v,vO pc.2.1,vO pc.2.2])):=(Same.refl H8).upd hx
    have u9:upd H8 x (.tup [.ref v,vO pc.2.1,vO pc.2.2]) x = some (.tup [.ref v,vO pc.2.1,vO pc.2.2]):=zaa
    generalize upd H8 x (.tup [.ref v,vO pc.2.1,vO pc.2.2]) = H9 at s9 u9 ⊢
    have s79:=s8.trans s9
    have h9:=s79 _ _ h7
    have nt:=zaJ h9
    refine ⟨ws,h9,zae (by omega),[],_,_,_,ws ++ [.ref x],rfl,(s7.trans s79).upd hD7,zaa,?_⟩
    rw [take_snoc hpc,List.map_append]
    have fx:FactAt (upd H9 D7 (.lst (ws ++ [.ref x]))) (.ref x) (g.1 ++ [pc.1],pc.2):=⟨x,v,rfl,zao nt _ _ u9,zao nt _ _ (s9 _ _ u8)⟩
    exact zah (R:=FactAt (upd H9 D7 (.lst (ws ++ [.ref x])))) fx (zbN (fun b zs h=>zao nt b zs (s79 _ _ h)) pw)
   ·rintro _ σ H7 ⟨o0,o1,o2,ws,rfl,s7,h7,pw⟩
    rw [lz,List.take_length] at pw
    have s57:=s6.trans s7
    have b7:=s57 _ _ b5
    have nt:=zaJ b7
    have ly:=Paired.length pf
    have lw:=Paired.length pw
    rw [List.length_map] at lw
    refine ⟨b,D7,ys,ws,rfl,rfl,b7,h7,Nat.le_of_lt (zae (by omega)),_,ys ++ ws,fs ++ pcs.map (fun p=>(g.1 ++ [p.1],p.2)),rfl,fun c u n h=>by rw [zai n]; exact s57 _ _ (kp c u n h),(s05.trans s57).upd hb0,zaa,?_,?_⟩
    ·exact zct (zbN (fun b zs h=>zao nt b zs (s57 _ _ h)) pf) (zbN (fun b zs h=>zao nt b zs h) pw)
    ·rw [take_snoc hgi]
     exact F5.add PC lT wg
  ·rintro σ H5 ⟨o7,ys,fs,rfl,kp,s05,b5,pf,F5⟩
   rw [List.length_map,List.take_length] at F5
   have lfs:fs.length ≤ 55:=by
    have:=F5.len
    have:gd.length * (2 * 5 + 1) ≤ 5 * 11:=Nat.mul_le_mul (by omega) (by decide)
    omega
   refine ⟨_,rfl,b,ys,fs,rfl,b5,pf,by omega,fun f hf z=>?_,F5.ok,zeb F5.wid,⟨fs.map (·.1),by rw [List.length_map]; omega,fun f hf=>List.mem_map_of_mem hf⟩,fun r=>by have:=zgn fs r; omega,fun D H6 rf s6 hD sn so=>?_⟩
   ·have:=F5.wid f hf
    rw [z] at this
    simp at this
   have sb:=so.shB F5.ok
   have few:=zen F5.ok sb
   refine k D H6 rf (s05.trans s6) (s05.free hD) (sn.weak s05) (sb.imp fun r m=>zkg (H0:=H) (H:=H) (d:=d) F5 hg hk r m) (by omega) fun e he=>?_
   have:e.1 ∈ fs.map (·.1):=(so.rows e.1).mp (List.mem_map_of_mem he)
   obtain ⟨f,hf,q⟩:=List.mem_map.mp this
   rw [← q]; exact F5.wid f hf
end
def many (e:Ent) : Bool:=decide (1 < (e.1.getLast?).getD 0)
def cutE (es:List Ent) : List Ent:=(es.filter many).map fun e=>(e.1.dropLast,e.2)
theorem zlZ {r:List Int} {n:Nat} (h:r.length = n + 1) : ∃ c z,r = c ++ [z] ∧ c.length = n:=by
 have ne:r ≠ []:=fun z=>by rw [z] at h; simp at h
 refine ⟨r.dropLast,r.getLast ne,(List.dropLast_concat_getLast ne).symm,?_⟩
 rw [List.length_dropLast,h]; rfl
theorem zi5 (es:List Ent) : (allS (cutE es)).length ≤ (allS es).length:=by
 unfold cutE allS
 induction es with
 | nil=>exact Nat.le_refl _
 | cons e es ih =>
  rw [List.filter_cons,List.flatMap_cons,List.length_append]
  split
  ·rw [List.map_cons,List.flatMap_cons,List.length_append]
   show e.2.length + _ ≤ _
   omega
  ·omega
theorem zjk {cs:List Nat} {es rf:List Ent} (h:ShB (grpF cs es) rf) (wid:∀ e ∈ rf,e.1.length = cs.length + 1) (r:List Int) (m:Int) : zac m (told (zak (cutE rf)) r) = decide (1 < cntG cs es r m):=by
 rw [Bool.eq_iff_iff,zdC,decide_eq_true_iff]
 constructor
 ·rintro ⟨e,he,rfl,hm⟩
  obtain ⟨e',he',rfl⟩:=List.mem_map.mp he
  obtain ⟨h1,h2⟩:=List.mem_filter.mp he'
  have hm':zac m e'.2 = true:=hm
  rw [h.sp e' h1,zfW] at hm'
  obtain ⟨c,ec,hc⟩:=hm'
  have g1:e'.1.dropLast = c:=by rw [ec,List.dropLast_concat]
  have g2:(e'.1.getLast?).getD 0 = (cntG cs es c m:Int):=by rw [ec,List.getLast?_concat]; rfl
  show 1 < cntG cs es e'.1.dropLast m
  rw [g1]
  have h3:1 < (e'.1.getLast?).getD 0:=of_decide_eq_true h2
  rw [g2] at h3
  omega
 ·intro hc
  have g:grpF cs es (r ++ [(cntG cs es r m:Int)]) m = true:=zfW.mpr ⟨r,rfl,by omega⟩
  obtain ⟨e,he,ee⟩:=List.mem_map.mp (h.all _ m g)
  refine ⟨(e.1.dropLast,e.2),List.mem_map.mpr ⟨e,List.mem_filter.mpr ⟨he,?_⟩,rfl⟩,?_,?_⟩
  ·refine decide_eq_true ?_
   rw [ee,List.getLast?_concat]
   show (1:Int) < (cntG cs es r m:Int)
   omega
  ·show e.1.dropLast = r
   rw [ee,List.dropLast_concat]
  ·rw [h.sp e he,ee]; exact g
section
variable {P:Program} {w:World} {K:PySem.W.Frag} {mg:Str → Option Value} {base:Heap}
def zbR:Sp:=fun vs H Q _=>∃ (a c:Addr) (cs:List Nat) (es:List Ent) (L:Nat),vs = [.ref a,.ref c] ∧ H c = some (.lst (colV cs)) ∧ SheetAt H a es ∧ (∀ e ∈ es,Can e.2) ∧ (∀ e ∈ es,e.1.length = L) ∧ (∀ i ∈ cs,i < L) ∧ cs ≠ [] ∧ cs.length ≤ 50 ∧ es.length ≤ 5 ∧ (allS es).length ≤ 5 ∧
 ∀ (D:Addr) (H':Hp) (rf:List Ent),Same H H' → H D = none → SheetN H H' D rf → ShB (fun r m=>decide (1 < cntG cs es r m)) rf → (allS rf).length < 64 → (∀ e ∈ rf,e.1.length = cs.length) → Q (.ref D) H'
theorem zde:FnScope ["sheet","columns","counted"] ["sheet","columns"] (zad zb6):=⟨rfl,rfl,rfl,by decide +kernel,rfl,by decide +kernel,by decide +kernel⟩
theorem zft {f:Addr} {fd:FuncData} (F:Fun K "key_broken" "key_broken" zb6 f fd) (F_groups_over_time:FnP P w K mg base 6 "groups_over_time" ["columns","sums","sheet"] za2) (F_facts_of:FnP P w K mg base 1 "facts_of" ["entries"] zcT) (F_sheet_of:FnP P w K mg base 5 "sheet_of" ["facts"] zb3) : FnOk P w K mg base CX0 7 f fd ["sheet","columns"] zbR:=by
 refine F.okJ zde (fun vs H Q E h=>?_) (fun cdv A outer s H vs Q E hr h=>?_)
 ·obtain ⟨_,_,_,_,_,rfl,_⟩:=h
  rfl
 ·obtain ⟨a,c,cs,es,L,rfl,hc,sheet,can,wid,sub,ne,l50,e5,f5,k⟩:=h
  have nd:=zde.nd
  have nd2:(["row","span"] : List Str).Nodup:=by decide +kernel
  refine ⟨_,(zab (zar 2 nd (e_fn F_groups_over_time hr (ac (e_v 1) (ac (zbl (a1 (zbs (a1 e_s)))) (a1 (e_v 0))))))
   (zag (zau (e_fn F_sheet_of hr (a1 (e_fn F_facts_of hr (a1c (zaZ (Nc:=["row","span"]) (js:=[none,none]) (g:=(gTup K 2 (zbp (zaw 0) (zbp (zaw 1) gNil)))) (tt:=(zhc (tOp (rI0 fun i j=>.bl (decide (j < i))) (tOp (rIxT K) (tVar 0) (tUn (rU fun i=>.int (-i)) (tC (.int 1)))) (tC (.int 1))))) (te:=(tTup (zal (tSl (rSlT K) (tVar 0) zcl (zeL (tUn (rU fun i=>.int (-i)) (tC (.int 1))))) (zal (tVar 1) tNil))))
   (zaB rfl rfl rfl rfl (fun x c h=>by cases h) rfl rfl rfl) (zat (e_v 2))
   (fun pins C s3 H3 fp=>⟨(zbv (zaf (g_n 0 nd2) (zaf (g_n 1 nd2) zaR))),.inr ⟨_,rfl,(zaW o_gt (e_ix zbg (e_v 0) (e_un zej e_i)) e_i)⟩,(zbs (ac (zlU (e_v 0) (e_un zej e_i)) (a1 (e_v 1))))⟩))))))))),?_⟩
  have lcs:0 < cs.length:=List.length_pos_iff.mpr ne
  refine ⟨_,rfl,by show 1 ≤ sizeLine; decide,fun u hu=>?_⟩
  have s1:Same H (upd H u (.tup [.str "count"])):=(Same.refl H).upd hu
  have u1:upd H u (.tup [.str "count"]) u = some (.tup [.str "count"]):=zaa
  generalize upd H u (.tup [.str "count"]) = H1 at s1 u1 ⊢
  refine ⟨by show 1 ≤ sizeLine; decide,fun l hl=>?_⟩
  have s2:Same H1 (upd H1 l (.lst [.ref u])):=(Same.refl H1).upd hl
  have u2:upd H1 l (.lst [.ref u]) l = some (.lst [.ref u]):=zaa
  generalize upd H1 l (.lst [.ref u]) = H2 at s2 u2 ⊢
  have s02:=s1.trans s2
  refine ⟨_,rfl,c,l,a,cs,es,L,rfl,s02 _ _ hc,⟨u,u2,s2 _ _ u1⟩,SheetAt.same s02 sheet,can,wid,sub,ne,l50,e5,f5,fun D3 H3 rf s3 hD3 sn sb few wr=>?_⟩
  obtain ⟨xs,hx3,px⟩:=sn
  have lx:xs.length = rf.length:=Paired.length px
  have rfl64:rf.length < 64:=by
   have:∀ l:List Ent,(∀ e ∈ l,e.2 ≠ []) → l.length ≤ (allS l).length:=fun l=>by
    unfold allS
    induction l with
    | nil=>intro _; exact Nat.le_refl _
    | cons e l ih =>
     intro h
     rw [List.flatMap_cons,List.length_append,List.length_cons]
     have:=List.length_pos_iff.mpr (h e List.mem_cons_self)
     have:=ih fun x hx=>h x (List.mem_cons_of_mem _ hx)
     omega
   have:=this rf sb.ne
   omega
  have s03:=s02.trans s3
  refine ⟨_,rfl,D3,rfl,⟨xs,SqL.of hx3⟩,fun D hD=>?_⟩
  refine zaC (K:=K) (a:=D3) (xs:=xs) (fun j _ σ H4=>∃ (o0 o1:Option V) (us:List V),σ = [o0,o1] ∧ Same H3 H4 ∧ H4 D = some (.lst us) ∧ Paired (EntX H4 D) us (cutE (rf.take j)))
   ⟨none,none,[],rfl,(Same.refl H3).upd hD,zaa,.nil⟩ (fun j _ σ H4 _ ⟨_,_,_,_,sm,_⟩=>SqL.of (sm _ _ hx3)) ?_ ?_
  ·rintro j y _ σ H4 hy ⟨o0,o1,us,rfl,sm,h4,pu⟩
   obtain ⟨e,he,t,p,q,rfl,ht,hp,hq,_,_⟩:=zaj px hy
   have hem:=List.mem_of_getElem? he
   have hj:=(List.getElem?_eq_some_iff.mp he).1
   obtain ⟨cc,z,er,lc⟩:=zlZ (wr e hem)
   have lu:us.length ≤ j:=by
    rw [Paired.length pu]
    unfold cutE
    rw [List.length_map]
    exact Nat.le_trans (List.length_filter_le _ _) (by rw [List.length_take]; omega)
   have hp4:=sm _ _ hp
   have ez:atI (e.1.map V.int) (-1) = some (.int z):=by rw [er,List.map_append]; exact zda _ _
   refine ⟨t,_,rfl,SqT.of (sm _ _ ht),rfl,_,_,rfl,_,_,rfl,rfl,?_⟩
   refine ⟨_,rfl,1,rfl,p,_,-1,_,rfl,rfl,SqT.of hp4,ez,_,_,rfl,rfl,_,rfl,?_⟩
   have em:many e = decide (1 < z):=by unfold many; rw [er,List.getLast?_concat]; rfl
   have et:cutE (rf.take (j + 1)) = cutE (rf.take j) ++ if many e = true then [(e.1.dropLast,e.2)] else []:=by
    rw [take_snoc he]
    unfold cutE
    rw [List.filter_append,List.map_append]
    congr 1
    by_cases h:many e = true <;> simp [h]
   rw [et,em]
   by_cases h1:1 < z
   ·rw [decide_eq_true h1]
    refine iteT ⟨_,rfl,1,rfl,-1,rfl,p,_,rfl,SqT.of hp4,fun zz=>?_,fun v hv=>?_⟩
    ·have:=zz.2
     have e2:HT.sIx (e.1.map V.int).length (e.1.map V.int).length (some (-1)) = (e.1.map V.int).length - 1:=by
      show (if (-1:Int) < 0 then ((-1:Int) + ((e.1.map V.int).length:Int)).toNat else min (-1:Int).toNat (e.1.map V.int).length) = _
      rw [if_pos (by decide)]; omega
     rw [e2,List.length_map,wr e hem] at this
     omega
    have ecut:cutV (e.1.map V.int) none (some (-1)) = e.1.dropLast.map V.int:=by rw [zhr,List.map_dropLast]
    rw [ecut]
    have s5:Same H4 (upd H4 v (.tup (e.1.dropLast.map V.int))):=(Same.refl H4).upd hv
    have u5:upd H4 v (.tup (e.1.dropLast.map V.int)) v = some (.tup (e.1.dropLast.map V.int)):=zaa
    generalize upd H4 v (.tup (e.1.dropLast.map V.int)) = H5 at s5 u5 ⊢
    refine ⟨_,rfl,by show 2 ≤ sizeLine; decide,fun x hx=>?_⟩
    have s6:Same H5 (upd H5 x (.tup [.ref v,.ref q])):=(Same.refl H5).upd hx
    have u6:upd H5 x (.tup [.ref v,.ref q]) x = some (.tup [.ref v,.ref q]):=zaa
    generalize upd H5 x (.tup [.ref v,.ref q]) = H6 at s6 u6 ⊢
    have s46:=s5.trans s6
    have h6:=s46 _ _ h4
    have nt:=zaJ h6
    have nq:q ≠ D:=fun z=>by obtain ⟨_,z1,_⟩:=hq; rw [z,hD] at z1; cases z1
    have ex:EntX H6 D (.ref x) (e.1.dropLast,e.2):=⟨x,v,q,rfl,u6,s6 _ _ u5,hq.same (sm.trans s46),nq⟩
    refine ⟨us,h6,zae (by omega),[],_,_,us ++ [.ref x],rfl,(sm.trans s46).upd hD,zaa,?_⟩
    exact zah (R:=EntX (upd H6 D (.lst (us ++ [.ref x]))) D) (ex.wr nt) (Paired.mapP pu fun _ _ z=>(EntX.same s46 z).wr nt)
   ·rw [decide_eq_false h1]
    exact iteF ⟨[],_,_,us,rfl,sm,h4,by rw [if_neg Bool.false_ne_true,List.append_nil]; exact pu⟩
  ·rintro _ σ H4 ⟨o0,o1,us,rfl,s4,h4,pu⟩
   rw [lx,List.take_length] at pu
   have lc:=zi5 rf
   have lf:=zhs (cutE rf)
   refine ⟨D,cutE rf,rfl,⟨us,h4,Paired.mapP pu fun _ _ z=>z.ent⟩,by omega,fun r H5 ys s5 hr5 h5 p5=>?_⟩
   have w5:∀ f ∈ zak (cutE rf),f.1.length = cs.length:=fun f hf=>by
    obtain ⟨e,he,h1,_⟩:=za5.mp hf
    obtain ⟨e',he',rfl⟩:=List.mem_map.mp he
    rw [h1]
    show e'.1.dropLast.length = _
    rw [List.length_dropLast,wr e' (List.mem_filter.mp he').1]; rfl
   have okf:∀ f ∈ zak (cutE rf),okS f.2:=fun f hf=>by
    obtain ⟨e,he,_,h2⟩:=za5.mp hf
    obtain ⟨e',he',rfl⟩:=List.mem_map.mp he
    exact (sb.can e' (List.mem_filter.mp he').1).1 _ h2
   refine ⟨r,ys,zak (cutE rf),rfl,h5,p5,by omega,fun f hf z=>by have:=w5 f hf; rw [z] at this; simp at this; omega,okf,zeb w5,⟨(zak (cutE rf)).map (·.1),by rw [List.length_map]; omega,fun f hf=>List.mem_map_of_mem hf⟩,fun r=>by have:=zgn (zak (cutE rf)) r; omega,fun D' H' rf' s' hD' sn' so'=>?_⟩
   have sb':=so'.shB okf
   have few':=zen okf sb'
   have s05:=s03.trans (s4.trans s5)
   refine k D' H' rf' (s05.trans s') (s05.free hD') (sn'.weak s05) (sb'.imp fun r m=>zjk sb wr r m) (by omega) fun e he=>?_
   obtain ⟨f,hf,q⟩:=List.mem_map.mp ((so'.rows e.1).mp (List.mem_map_of_mem he))
   rw [← q]; exact w5 f hf
end
def dueB (cs:List Nat) (ls:List (List Int)) (r:List Int) : Bool:=decide (1 < (ls.filter fun x=>decide (pick cs x = pick cs r)).length)
def dueR (cs:List Nat) (ls t:List (List Int)) : List (List Int):=(t.filter (dueB cs ls)).map (pick cs)
section
variable {P:Program} {w:World} {K:PySem.W.Frag} {mg:Str → Option Value} {base:Heap}
def zcL:Sp:=fun vs H Q _=>∃ (l1 c1:Addr) (zs1:List V) (ls:List (List Int)) (cs:List Nat) (L:Nat),vs = [.ref l1,.ref c1] ∧ H l1 = some (.lst zs1) ∧ Paired (RowAt H) zs1 ls ∧ H c1 = some (.lst (colV cs)) ∧
 (∀ r ∈ ls,r.length = L) ∧ (∀ i ∈ cs,i < L) ∧ cs ≠ [] ∧ cs.length ≤ 50 ∧ ls.length < 64 ∧
 ∀ (p:Addr) (H':Hp) (zs:List V) (ls':List (List Int)),Same H H' → H p = none → H' p = some (.lst zs) → Paired (RowAt H') zs ls' → LinesOf (dueR cs ls ls) ls' → Q (.ref p) H'
theorem zeA:FnScope ["_law_rows","_law_columns","_law_told","_law_row","_law_cells"] ["_law_rows","_law_columns"] (zad zcJ):=⟨rfl,rfl,rfl,by decide +kernel,rfl,by decide +kernel,by decide +kernel⟩
theorem zgZ {f:Addr} {fd:FuncData} (F:Fun K "_law_due" "_law_due" zcJ f fd) (B:Blts mg) (F__law_lines:FnP P w K mg base 1 "_law_lines" ["_law_rows"] zbb) : FnOk P w K mg base CX0 2 f fd ["_law_rows","_law_columns"] zcL:=by
 refine F.okJ zeA (fun vs H Q E h=>?_) (fun cdv A outer s H vs Q E hr h=>?_)
 ·obtain ⟨_,_,_,_,_,_,rfl,_⟩:=h
  rfl
 ·obtain ⟨l1,c1,zs1,ls,cs,L,rfl,hl1,p1,hc1,w1,sub,ne,l50,n1,k⟩:=h
  have nd:=zeA.nd
  have nda:(["_law_i","_law_row"] : List Str).Nodup:=by decide +kernel
  have ndo:(["_law_i","_law_other"] : List Str).Nodup:=by decide +kernel
  have nd3:(["_law_other","_law_cells","_law_columns"] : List Str).Nodup:=by decide +kernel
  refine ⟨_,(zab (zar 2 nd (zbl a0))
   (zab (zbd (zat (e_v 0)) (g_n 3 nd)
    (zab (zar 4 nd (e_ct zd9 B.tuple PyProof.Rows.boot_tuple (a1c (zaZ (Nc:=["_law_i","_law_row"]) (js:=[none,some 3]) (g:=(zaw 0)) (tt:=tYes) (te:=(tOp (rIxT K) (tVar 1) (tVar 0)))
   (zaB rfl rfl rfl rfl (fun x c h=>by (obtain ⟨rfl,rfl⟩ : x = _ ∧ c = _:=(by simpa using h)); rfl) rfl rfl rfl) (zat (e_v 1))
   (fun pins C s3 H3 fp=>⟨(g_n 0 nda),.inl ⟨rfl,rfl⟩,(e_ix zbg (e_v 1) (e_v 0))⟩)))))
    (zag (s_if (zaW o_gt (e_cb zcM B.len PySem.boot_len (a1c (zl9 (x0 := "_law_other") (Nc:=["_law_other","_law_cells","_law_columns"]) (js:=[none,some 4,some 1]) (g:=(zaw 0)) (tt:=(zhc (tOp (rEqD K) (tCB (fun xs H Q=>∃ p ys,xs = [.ref p] ∧ ((SqL K H p ys ∧ ∀ l,H l = none → Q (.ref l) (upd H l (.tup ys))) ∨ (SqT K H p ys ∧ Q (.ref p) H))) (zal (zg2 [none,some 0] (zlV K (tVar 2)) (zaw 0) tYes (tOp (rIxT K) (tVar 1) (tVar 0))) tNil)) (tVar 1)))) (te:=(tVar 0))
   (zj9 rfl rfl (fun _ _=>rfl) (fun _=>rfl) rfl (fun x c h=>by simp at h; rcases h with ⟨rfl,rfl⟩ | ⟨rfl,rfl⟩ <;> rfl) rfl rfl rfl) (zat (e_v 0))
   (fun pins C s3 H3 fp=>⟨(g_n 0 nd3),.inr ⟨_,rfl,(zaW (zn0 hr) (e_ct zd9 B.tuple PyProof.Rows.boot_tuple (a1c (zaZ (Nc:=["_law_i","_law_other"]) (js:=[none,some 0]) (g:=(zaw 0)) (tt:=tYes) (te:=(tOp (rIxT K) (tVar 1) (tVar 0)))
   (zaB rfl rfl rfl rfl (fun x c h=>by (obtain ⟨rfl,rfl⟩ : x = _ ∧ c = _:=(by simpa using h)); rfl) rfl rfl rfl) (zat (e_v 2))
   (fun pins C s3 H3 fp=>⟨(g_n 0 ndo),.inl ⟨rfl,rfl⟩,(e_ix zbg (e_v 1) (e_v 0))⟩)))) (e_v 1))⟩,(e_v 0)⟩)))) e_i) (zag (zdB (e_v 2) (e_v 4))) zaS))))
   (zag (zau (e_fn F__law_lines hr (a1 (e_v 2))))))),?_⟩
  have lz1:zs1.length = ls.length:=Paired.length p1
  have lcs:0 < cs.length:=List.length_pos_iff.mpr ne
  refine ⟨Nat.zero_le _,fun b hb=>?_⟩
  have s0:Same H (upd H b (.lst [])):=(Same.refl H).upd hb
  have u0:upd H b (.lst []) b = some (.lst []):=zaa
  generalize upd H b (.lst []) = H0 at s0 u0 ⊢
  refine ⟨_,rfl,l1,rfl,⟨zs1,SqL.of (s0 _ _ hl1)⟩,zaA (K:=K) (a:=l1) (xs:=zs1) (fun i σ H'=>∃ (o3 o4:Option V) (zs:List V),σ = [some (.ref l1),some (.ref c1),some (.ref b),o3,o4] ∧ Same H H' ∧ H' b = some (.lst zs) ∧ Paired (RowAt H') zs (dueR cs ls (ls.take i)))
   ⟨none,none,[],rfl,s0,u0,.nil⟩ (fun i σ H' _ ⟨_,_,_,_,sm,_⟩=>SqL.of (sm _ _ hl1)) ?_ ?_⟩
  ·rintro i x σ H5 hx ⟨o3,o4,zs,rfl,s05,h5,pz⟩
   obtain ⟨r,hr1,t,rfl,ht⟩:=zaj p1 hx
   have hi:=(List.getElem?_eq_some_iff.mp hr1).1
   have lz:zs.length ≤ i:=by
    rw [Paired.length pz]
    unfold dueR
    rw [List.length_map]
    exact Nat.le_trans (List.length_filter_le _ _) (by rw [List.length_take]; omega)
   refine ⟨_,rfl,c1,rfl,⟨_,SqL.of (s05 _ _ hc1)⟩,fun D2 hD2=>?_⟩
   refine zgi (row:=r) hD2 (s05 _ _ hc1) (s05 _ _ ht) (fun i hi=>by rw [w1 r (List.mem_of_getElem? hr1)]; exact sub i hi) l50 fun H6 s6 h6=>?_
   refine ⟨D2,_,rfl,.inl ⟨SqL.of h6,fun v hv=>?_⟩⟩
   have s7:Same H6 (upd H6 v (.tup ((pick cs r).map V.int))):=(Same.refl H6).upd hv
   have u7:upd H6 v (.tup ((pick cs r).map V.int)) v = some (.tup ((pick cs r).map V.int)):=zaa
   generalize upd H6 v (.tup ((pick cs r).map V.int)) = H7 at s7 u7 ⊢
   have s57:=s6.trans s7
   have s07:=s05.trans s57
   refine ⟨_,rfl,l1,rfl,⟨zs1,SqL.of (s07 _ _ hl1)⟩,fun D hD=>?_⟩
   refine zaC (K:=K) (a:=l1) (xs:=zs1) (fun j _ σ H'=>∃ (o:Option V) (us:List V),σ = [o,some (.ref v),some (.ref c1)] ∧ Same H7 H' ∧ H' D = some (.lst us) ∧ us.length = ((ls.take j).filter fun x=>decide (pick cs x = pick cs r)).length)
    ⟨none,[],rfl,(Same.refl H7).upd hD,zaa,rfl⟩ (fun j _ σ H' _ ⟨_,_,_,sm,_⟩=>SqL.of (sm _ _ (s07 _ _ hl1))) ?_ ?_
   ·rintro j y _ σ H8 hy ⟨o,us,rfl,sm,h8,lu⟩
    obtain ⟨r',hr2,t',rfl,ht'⟩:=zaj p1 hy
    have hj:=(List.getElem?_eq_some_iff.mp hr2).1
    have s08:=s07.trans sm
    have lu':us.length ≤ j:=by
     rw [lu]
     exact Nat.le_trans (List.length_filter_le _ _) (by rw [List.length_take]; omega)
    refine ⟨_,rfl,c1,rfl,⟨_,SqL.of (s08 _ _ hc1)⟩,fun D3 hD3=>?_⟩
    refine zgi (row:=r') hD3 (s08 _ _ hc1) (s08 _ _ ht') (fun i hi=>by rw [w1 r' (List.mem_of_getElem? hr2)]; exact sub i hi) l50 fun H9 s9 h9=>?_
    refine ⟨D3,_,rfl,.inl ⟨SqL.of h9,fun v' hv'=>?_⟩⟩
    have s10:Same H9 (upd H9 v' (.tup ((pick cs r').map V.int))):=(Same.refl H9).upd hv'
    have u10:upd H9 v' (.tup ((pick cs r').map V.int)) v' = some (.tup ((pick cs r').map V.int)):=zaa
    generalize upd H9 v' (.tup ((pick cs r').map V.int)) = Ha at s10 u10 ⊢
    have s8a:=s9.trans s10
    have ha:=s8a _ _ h8
    refine ⟨_,rfl,_,_,RowAt.den ⟨v',rfl,u10⟩,RowAt.den ⟨v,rfl,s8a _ _ (sm _ _ u7)⟩,zbw _,zbw _,_,rfl,?_⟩
    rw [zhf,take_snoc hr2,List.filter_append]
    by_cases c:pick cs r' = pick cs r
    ·rw [decide_eq_true c]
     refine iteT ⟨_,rfl,us,ha,zae (by omega),[],_,us ++ [.ref t'],rfl,(sm.trans s8a).upd hD,zaa,?_⟩
     rw [List.length_append,List.length_append,lu]
     simp [c]
    ·rw [decide_eq_false c]
     refine iteF ⟨[],_,us,rfl,sm.trans s8a,ha,?_⟩
     rw [List.length_append,lu]
     simp [c]
   rintro _ σ H8 ⟨o,us,rfl,s8,h8,lu⟩
   rw [lz1,List.take_length] at lu
   have s58:=s57.trans s8
   have s08:=s05.trans s58
   have h58:=s58 _ _ h5
   refine ⟨D,us,rfl,.inl (SqL.of h8),_,_,rfl,rfl,_,rfl,?_⟩
   have e1:decide ((1:Int) < (us.length:Int)) = dueB cs ls r:=by
    unfold dueB
    rw [lu]
    exact decide_eq_decide.mpr (by omega)
   have e2:dueR cs ls (ls.take (i + 1)) = dueR cs ls (ls.take i) ++ if dueB cs ls r = true then [pick cs r] else []:=by
    rw [take_snoc hr1]
    unfold dueR
    rw [List.filter_append,List.map_append]
    congr 1
    by_cases h:dueB cs ls r = true <;> simp [h]
   rw [e1,e2]
   cases c:dueB cs ls r with
   | false =>
    refine iteF ⟨_,_,zs,rfl,s08,h58,?_⟩
    rw [if_neg Bool.false_ne_true,List.append_nil]
    exact Paired.mapP pz fun _ _ z=>RowAt.same s58 z
   | true =>
    have nt:=zaJ h58
    refine iteT ⟨_,rfl,.inl ⟨rfl,_,SqL.of h58⟩,_,rfl,b,zs,_,rfl,rfl,h58,zae (by omega),_,_,zs ++ [.ref v],rfl,s08.upd hb,zaa,?_⟩
    rw [if_pos rfl]
    exact zah (R:=RowAt (upd H8 b (.lst (zs ++ [.ref v])))) ⟨v,rfl,zao nt _ _ (s8 _ _ u7)⟩ (Paired.mapP pz fun _ _ ⟨u,a1,a2⟩=>⟨u,a1,zao nt _ _ (s58 _ _ a2)⟩)
  ·rintro σ H5 ⟨o3,o4,zs,rfl,s05,h5,pz⟩
   rw [lz1,List.take_length] at pz
   refine ⟨_,rfl,b,zs,_,rfl,h5,pz,fun r hr z=>?_,?_,fun p H' zs' ls' s6 hp h6 pz6 Li=>k p H' zs' ls' (s05.trans s6) (s05.free hp) h6 pz6 Li⟩
   ·obtain ⟨x,_,rfl⟩:=List.mem_map.mp hr
    have:=zdM cs x
    rw [z] at this
    simp at this
    omega
   ·unfold dueR
    rw [List.length_map]
    exact Nat.lt_of_le_of_lt (List.length_filter_le _ _) n1
end
theorem zlY {g:List Int} (hg:Inc g) (x:Int) : ∃ g',Inc g' ∧ (∀ y,y ∈ g' ↔ y = x ∨ y ∈ g) ∧ g'.length ≤ g.length + 1:=by
 induction g with
 | nil=>exact ⟨[x],List.pairwise_singleton ..,fun y=>by simp,Nat.le_refl _⟩
 | cons a g ih =>
  obtain ⟨h1,h2⟩:=List.pairwise_cons.mp hg
  by_cases c:x < a
  ·exact ⟨x :: a :: g,List.pairwise_cons.mpr ⟨fun y hy=>by
    rcases List.mem_cons.mp hy with rfl | hy
    ·exact c
    ·exact Int.lt_trans c (h1 y hy),hg⟩,fun y=>by simp,Nat.le_refl _⟩
  ·by_cases e:x = a
   ·exact ⟨a :: g,hg,fun y=>by rw [e]; simp,by simp⟩
   ·obtain ⟨g',i1,i2,i3⟩:=ih h2
    refine ⟨a :: g',List.pairwise_cons.mpr ⟨fun y hy=>?_,i1⟩,fun y=>?_,by simpa using i3⟩
    ·rcases (i2 y).mp hy with rfl | z
     ·omega
     ·exact h1 y z
    ·rw [List.mem_cons,i2 y,List.mem_cons]
     exact ⟨fun z=>by rcases z with z | z | z; exact .inr (.inl z); exact .inl z; exact .inr (.inr z),fun z=>by rcases z with z | z | z; exact .inr (.inl z); exact .inl z; exact .inr (.inr z)⟩
theorem zjD:∀ l:List Int,∃ g,Inc g ∧ (∀ x,x ∈ g ↔ x ∈ l) ∧ g.length ≤ l.length
 | []=>⟨[],.nil,fun x=>Iff.rfl,Nat.le_refl _⟩
 | x :: l=>by
  obtain ⟨g,h1,h2,h3⟩:=zjD l
  obtain ⟨g',i1,i2,i3⟩:=zlY h1 x
  exact ⟨g',i1,fun y=>by rw [i2 y,h2 y,List.mem_cons],by rw [List.length_cons]; omega⟩
theorem zi0 (l:List Fact) : (zbo l).length ≤ 2 * l.length:=by
 unfold zbo
 induction l with
 | nil=>exact Nat.le_refl _
 | cons f l ih=>rw [List.flatMap_cons,List.length_append,List.length_append,List.length_cons]; have:=len1 f.2.1; have:=len1 f.2.2; omega
abbrev zjC (fs:List Fact) : List Int → Int → Bool:=fun r m=>zac m (told fs r)
theorem ze2 {fs:List Fact} {es:List Ent} (h:ShB (zjC fs) es) : ∀ e ∈ es,e.1 ∈ fs.map (·.1):=fun e he=>by
 obtain ⟨m,hm⟩:=h.non e he
 obtain ⟨s,hs,_⟩:=zam.mp hm
 exact List.mem_map.mpr ⟨(e.1,s),zaF.mp hs,rfl⟩
theorem zir {fs:List Fact} {es:List Ent} (h:ShB (zjC fs) es) : es.length ≤ fs.length:=by
 have:=zax h.nd (m:=fs.map (·.1)) fun r hr=>by obtain ⟨e,he,rfl⟩:=List.mem_map.mp hr; exact ze2 h e he
 rwa [List.length_map,List.length_map] at this
theorem zid {fs:List Fact} {es:List Ent} {g:List Int} (inc:Inc g) (hg:∀ x ∈ zbo fs,x ∈ g) (h:ShB (zjC fs) es) : ∀ e ∈ es,∀ x ∈ bnds e.2,x ∈ g:=fun e he =>
 zhl (h.can e he) fun m m' em=>by rw [h.sp e he,h.sp e he]; exact zfb inc hg e.1 em
theorem zjK {fs:List Fact} {es:List Ent} {L:Nat} (h:ShB (zjC fs) es) (hw:∀ f ∈ fs,f.1.length = L) : ∀ e ∈ es,e.1.length = L:=fun e he=>by
 obtain ⟨f,hf,ef⟩:=List.mem_map.mp (ze2 h e he)
 rw [← ef]; exact hw f hf
theorem zfz {es:List Ent} {x:Int} : x ∈ zbo (zak es) ↔ ∃ e ∈ es,x ∈ bnds e.2:=by
 rw [zef]
 constructor
 ·rintro ⟨f,hf,h⟩
  obtain ⟨e,he,_,h2⟩:=za5.mp hf
  exact ⟨e,he,zdP.mpr ⟨f.2,h2,h⟩⟩
 ·rintro ⟨e,he,h⟩
  obtain ⟨s,hs,h'⟩:=zdP.mp h
  exact ⟨(e.1,s),za5.mpr ⟨e,he,rfl,hs⟩,h'⟩
theorem zh3 {l:List Stt} (h:Can l) (m:Int) : (l.filter (inS m)).length ≤ 1:=by
 induction l with
 | nil=>exact Nat.zero_le _
 | cons s l ih =>
  have ih:=ih h.tail
  cases c:inS m s with
  | false=>rw [List.filter_cons_of_neg (by rw [c]; exact Bool.false_ne_true)]; exact ih
  | true =>
   rw [List.filter_cons_of_pos c]
   have:l.filter (inS m) = []:=by
    rw [List.filter_eq_nil_iff]
    intro q hq z
    obtain ⟨b,hb,lt⟩:=h.behind (zam.mpr ⟨q,hq,z⟩)
    have:=(zaz.mp c).2 b hb
    omega
   rw [this]
   exact Nat.le_refl _
theorem zkD {es:List Ent} (h:∀ e ∈ es,Can e.2) (m:Int) : (atF m (zak es)).length ≤ es.length:=by
 unfold atF
 rw [List.length_map]
 induction es with
 | nil=>exact Nat.le_refl _
 | cons e es ih =>
  have ih:=ih fun x hx=>h x (List.mem_cons_of_mem _ hx)
  have:zak (e :: es) = (e.2.map fun s=>(e.1,s)) ++ zak es:=by unfold zak; rw [List.flatMap_cons]
  rw [this,List.filter_append,List.length_append,List.length_cons,List.filter_map,List.length_map]
  have:=zh3 (h e List.mem_cons_self) m
  have e2:(e.2.filter ((fun f:Fact=>inS m f.2) ∘ fun s=>(e.1,s))).length = (e.2.filter (inS m)).length:=rfl
  omega
theorem zjT {K:PySem.W.Frag} {a D:Addr} {xs:List V} {es:List Ent} {H:Hp} {Q:VK} (hD:H D = none) (ha:H a = some (.lst xs)) (px:Paired (EntAt H) xs es) (l:es.length ≤ 900)
  (k:∀ H',Same H H' → SheetAt H' D es → Q (.ref D) H') : zdw (Itl K a) (gTup K 2 (zbp (zaw 0) (zbp (zaw 1) gNil))) tYes (tTup (zal (tVar 0) (zal (tCB (fun xs H Q=>∃ p ys,xs = [.ref p] ∧ (SqL K H p ys ∨ SqT K H p ys) ∧ ∀ l,H l = none → Q (.ref l) (upd H l (.lst ys))) (zal (tVar 1) tNil)) tNil))) D Q [none,none] (upd H D (.lst [])):=by
 have lx:xs.length = es.length:=Paired.length px
 refine zaC (K:=K) (a:=a) (xs:=xs) (fun j _ σ H4=>∃ (o0 o1:Option V) (us:List V),σ = [o0,o1] ∧ Same H H4 ∧ H4 D = some (.lst us) ∧ Paired (EntX H4 D) us (es.take j))
  ⟨none,none,[],rfl,(Same.refl H).upd hD,zaa,.nil⟩ (fun j _ σ H4 _ ⟨_,_,_,_,sm,_⟩=>SqL.of (sm _ _ ha)) ?_ ?_
 ·rintro j y _ σ H4 hy ⟨o0,o1,us,rfl,sm,h4,pu⟩
  obtain ⟨e,he,t,p,q,rfl,ht,hp,zs,hz,pz⟩:=zaj px hy
  have hj:=(List.getElem?_eq_some_iff.mp he).1
  have lu:us.length = j:=by rw [Paired.length pu,List.length_take]; omega
  refine ⟨t,_,rfl,SqT.of (sm _ _ ht),rfl,_,_,rfl,_,_,rfl,rfl,?_⟩
  refine ⟨_,rfl,_,rfl,q,zs,rfl,.inl (SqL.of (sm _ _ hz)),fun u hu=>?_⟩
  have s5:Same H4 (upd H4 u (.lst zs)):=(Same.refl H4).upd hu
  have u5:upd H4 u (.lst zs) u = some (.lst zs):=zaa
  generalize upd H4 u (.lst zs) = H5 at s5 u5 ⊢
  refine ⟨by show 2 ≤ sizeLine; decide,fun v hv=>?_⟩
  have s6:Same H5 (upd H5 v (.tup [.ref p,.ref u])):=(Same.refl H5).upd hv
  have u6:upd H5 v (.tup [.ref p,.ref u]) v = some (.tup [.ref p,.ref u]):=zaa
  generalize upd H5 v (.tup [.ref p,.ref u]) = H6 at s6 u6 ⊢
  have s46:=s5.trans s6
  have s06:=sm.trans s46
  have h6:=s46 _ _ h4
  have nt:=zaJ h6
  have nu:u ≠ D:=fun z=>by rw [z,h4] at hu; cases hu
  have ex:EntX H6 D (.ref v) e:=⟨v,p,u,rfl,u6,s06 _ _ hp,⟨zs,s6 _ _ u5,StsAt.same s06 pz⟩,nu⟩
  refine ⟨us,h6,zae (by omega),[],_,_,us ++ [.ref v],rfl,s06.upd hD,zaa,?_⟩
  rw [take_snoc he]
  exact zah (R:=EntX (upd H6 D (.lst (us ++ [.ref v]))) D) (ex.wr nt) (Paired.mapP pu fun _ _ z=>(z.same s46).wr nt)
 ·rintro _ σ H4 ⟨o0,o1,us,rfl,sm,h4,pu⟩
  rw [lx,List.take_length] at pu
  exact k H4 sm ⟨us,h4,Paired.mapP pu fun _ _ z=>z.ent⟩
theorem zmw {g:List Int} (inc:Inc g) {cs:List Nat} {es:List Ent} (h:∀ e ∈ es,∀ x ∈ bnds e.2,x ∈ g) (r:List Int) {m m':Int} (e:zav g m = zav g m') : cntG cs es r m = cntG cs es r m':=by
 unfold cntG cntE
 congr 1
 refine List.filter_congr fun x hx=>?_
 exact zk3 inc (h x (List.mem_filter.mp hx).1) e
theorem zlK {fs1:List Fact} {es es':List Ent} {cs:List Nat} {m:Int} {ls1 ls2 ls3:List (List Int)} (h1:ShB (zjC fs1) es) (h':ShB (fun r m=>decide (1 < cntG cs es r m)) es')
  (L1:LinesOf (atF m fs1) ls1) (L2:LinesOf (dueR cs ls1 ls1) ls2) (L3:LinesOf (atF m (zak es')) ls3) : ls3 = ls2:=by
 refine L3.uniq L2 fun r=>?_
 have key:(ls1.filter fun x=>decide (pick cs x = r)).length = cntG cs es r m:=by
  have p:(ls1.filter fun x=>decide (pick cs x = r)).Perm (((grp cs es r).filter fun e=>zac m e.2).map (·.1)):=by
   refine (List.perm_ext_iff_of_nodup (L1.nd.sublist List.filter_sublist) (h1.nd.sublist ((List.filter_sublist.trans List.filter_sublist).map _))).mpr fun x=>?_
   rw [List.mem_filter,L1.mem,zj2]
   constructor
   ·rintro ⟨hm,hp⟩
    obtain ⟨e,he,rfl⟩:=List.mem_map.mp (h1.all x m hm)
    exact List.mem_map.mpr ⟨e,List.mem_filter.mpr ⟨List.mem_filter.mpr ⟨he,hp⟩,by rw [h1.sp e he]; exact hm⟩,rfl⟩
   ·intro h
    obtain ⟨e,he,rfl⟩:=List.mem_map.mp h
    obtain ⟨he,hm⟩:=List.mem_filter.mp he
    obtain ⟨he,hp⟩:=List.mem_filter.mp he
    exact ⟨by rw [h1.sp e he] at hm; exact hm,hp⟩
  have:=p.length_eq
  rw [List.length_map] at this
  exact this
 rw [zj2,h'.told,decide_eq_true_iff,← key]
 unfold dueR
 rw [List.mem_map]
 constructor
 ·intro h
  obtain ⟨x,hx⟩:=List.exists_mem_of_length_pos (show 0 < (ls1.filter fun x=>decide (pick cs x = r)).length by omega)
  obtain ⟨hx1,hx2⟩:=List.mem_filter.mp hx
  have e:pick cs x = r:=of_decide_eq_true hx2
  exact ⟨x,List.mem_filter.mpr ⟨hx1,by unfold dueB; rw [e]; exact decide_eq_true h⟩,e⟩
 ·rintro ⟨x,hx,e⟩
  have:=(List.mem_filter.mp hx).2
  unfold dueB at this
  rw [e] at this
  exact of_decide_eq_true this
theorem zgo {K:PySem.W.Frag} {H:Hp} {a:Addr} {es:List Ent} (h:SheetAt H a es) : Den K H (.ref a) (.list (es.map dEnt)):=let ⟨xs,h1,h2⟩:=h; .lst (SqL.of h1) (zhH h2)
theorem zd6 (es:List Ent) : SeqAt.shaped (.list (es.map dEnt)) = true:=by
 have e:=zfe es
 unfold SeqAt.shaped
 simp only [PyData.canLay0,PyData.depth,e.1]
 simp
 omega
section
variable {P:Program} {w:World} {K:PySem.W.Frag} {mg:Str → Option Value} {base:Heap}
def zbQ:Sp:=fun vs H Q _=>∃ (l1 c1:Addr) (n:Nat) (xs1:List V) (fs1:List Fact) (cs:List Nat),vs = [.ref l1,.ref c1] ∧ H l1 = some (.lst xs1) ∧ Paired (FactAt H) xs1 fs1 ∧ H c1 = some (.lst (colV cs)) ∧
 (∀ f ∈ fs1,f.1.length = n ∧ okS f.2) ∧ fs1.length ≤ 5 ∧ (∀ i ∈ cs,i < n) ∧ cs ≠ [] ∧ cs.length ≤ 3 ∧ 1 ≤ n ∧ n ≤ 3 ∧
 ∀ H',Same H H' → Q (.bl true) H'
theorem zdb:FnScope ["_law_facts_here","_law_columns","_law_sheet_here","_law_handed","_law_found","_law_bounds_here","_law_told","_law_bound","_law_piece","_law_moment"] ["_law_facts_here","_law_columns"] (zad zb5):=⟨rfl,rfl,rfl,by decide +kernel,rfl,by decide +kernel,by decide +kernel⟩
theorem zfO {f:Addr} {fd:FuncData} (F:Fun K "_law_right" "_law_right" zb5 f fd) (B:Blts mg) (F__law_sheet:FnP P w K mg base 2 "_law_sheet" ["_law_facts_here"] zbV) (F_key_broken:FnP P w K mg base 7 "key_broken" ["sheet","columns"] zbR) (F__law_is_sheet:FnP P w K mg base 3 "_law_is_sheet" ["_law_found","_law_size"] zbr) (F__law_bounds:FnP P w K mg base 1 "_law_bounds" ["_law_facts_here"] zbi) (F__law_facts:FnP P w K mg base 1 "_law_facts" ["_law_sheet_here"] zbS) (F__law_pieces:FnP P w K mg base 1 "_law_pieces" ["_law_bounds_here"] zbk) (F__law_within:FnP P w K mg base 1 "_law_within" ["_law_piece"] zbj) (F__law_at:FnP P w K mg base 2 "_law_at" ["_law_facts_here","_law_moment"] zdq) (F__law_due:FnP P w K mg base 2 "_law_due" ["_law_rows","_law_columns"] zcL) : FnOk P w K mg base CX0 8 f fd ["_law_facts_here","_law_columns"] zbQ:=by
 refine F.okJ zdb (fun vs H Q E h=>?_) (fun cdv A outer s H vs Q E hr h=>?_)
 ·obtain ⟨_,_,_,_,_,_,rfl,_⟩:=h
  rfl
 ·obtain ⟨l1,c1,n,xs1,fs1,cs,rfl,hl1,pf1,hc1,g1,n1,sub1,cne,lc,n_1,n_3,k⟩:=h
  have nd:=zdb.nd
  have nd2:(["_law_row","_law_span_here"] : List Str).Nodup:=by decide +kernel
  refine ⟨_,(zab (zar 2 nd (e_fn F__law_sheet hr (a1 (e_v 0))))
   (zab (zlF 3 nd (Nc:=["_law_row","_law_span_here"]) (js:=[none,none]) (g:=(gTup K 2 (zbp (zaw 0) (zbp (zaw 1) gNil)))) (tt:=tYes) (te:=(tTup (zal (tVar 0) (zal (tCB (fun xs H Q=>∃ p ys,xs = [.ref p] ∧ (SqL K H p ys ∨ SqT K H p ys) ∧ ∀ l,H l = none → Q (.ref l) (upd H l (.lst ys))) (zal (tVar 1) tNil)) tNil))))
   (zaB rfl rfl rfl rfl (fun x c h=>by cases h) rfl rfl rfl) (zat (e_v 2))
   (fun pins C s3 H3 fp=>⟨(zbv (zaf (g_n 0 nd2) (zaf (g_n 1 nd2) zaR))),.inl ⟨rfl,rfl⟩,(zbs (ac (e_v 0) (a1 (e_ct zlA B.list PyProof.Rows.boot_list (a1 (e_v 1))))))⟩))
   (zab (zar 4 nd (e_fn F_key_broken hr (ac (e_v 3) (a1 (e_ct zlA B.list PyProof.Rows.boot_list (a1 (e_v 1)))))))
   (zab (s_if (JW.jt (w_or (zdA (zcz (e_fn F__law_is_sheet hr (ac (e_v 4) (a1 (e_cb zcM B.len PySem.boot_len (a1 (e_v 1)))))))) (zfy (zaW (zlS hr) (e_v 3) (e_v 2))))) (zag (zau e_b)) zaS)
   (zab (zar 5 nd (e_fn F__law_bounds hr (a1 (e_v 0))))
   (zab (zar 6 nd (e_fn F__law_facts hr (a1 (e_v 4))))
   (zab (zbd (zat (e_fn F__law_bounds hr (a1 (e_v 6)))) (g_n 7 nd)
    (zag (s_if (ziw (e_v 7) (e_v 5)) (zag (zau e_b)) zaS)))
   (zab (zbd (zat (e_fn F__law_pieces hr (a1 (e_v 5)))) (g_n 8 nd)
    (zab (zar 9 nd (e_fn F__law_within hr (a1 (e_v 8))))
    (zag (s_if (zaW (zlS hr) (e_fn F__law_at hr (ac (e_v 6) (a1 (e_v 9)))) (e_fn F__law_due hr (ac (e_fn F__law_at hr (ac (e_v 0) (a1 (e_v 9)))) (a1 (e_v 1))))) (zag (zau e_b)) zaS))))
   (zag (zau e_b)))))))))),?_⟩
  have ne1:∀ f ∈ fs1,f.1 ≠ [] ∧ okS f.2:=fun f hf=>⟨fun z=>by have:=(g1 f hf).1; rw [z] at this; simp at this; omega,(g1 f hf).2⟩
  refine ⟨_,rfl,l1,xs1,fs1,rfl,hl1,pf1,ne1,by omega,fun p5 H1 es1 s1 hp5 sh1 ph1=>?_⟩
  obtain ⟨g,inc,gm,gl⟩:=zjD (zbo fs1)
  have gl':g.length ≤ 10:=by have:=zi0 fs1; omega
  have bd1:=zid inc (fun x hx=>(gm x).mpr hx) ph1
  have e1l:=zir ph1
  have w1:=zjK ph1 fun f hf=>(g1 f hf).1
  have few1:=zen (fun f hf=>(g1 f hf).2) ph1
  obtain ⟨ys1,hy1,py1⟩:=id sh1
  refine ⟨_,rfl,p5,rfl,⟨ys1,SqL.of hy1⟩,fun D1 hD1=>?_⟩
  refine zjT hD1 hy1 py1 (by omega) fun H3 s3 hs1=>?_
  have s03:=s1.trans s3
  have sh3:SheetAt H3 p5 es1:=SheetAt.same s3 sh1
  clear hD1 hy1 py1
  refine ⟨_,rfl,_,rfl,c1,_,rfl,.inl (SqL.of (s03 _ _ hc1)),fun a1 ha1=>?_⟩
  have s6:Same H3 (upd H3 a1 (.lst (colV cs))):=(Same.refl H3).upd ha1
  have u6:upd H3 a1 (.lst (colV cs)) a1 = some (.lst (colV cs)):=zaa
  generalize upd H3 a1 (.lst (colV cs)) = H6 at s6 u6 ⊢
  refine ⟨D1,a1,cs,es1,n,rfl,u6,SheetAt.same s6 hs1,ph1.can,w1,sub1,cne,by omega,by omega,by omega,fun D H8 es' s8 hD sn ph few w'=>?_⟩
  have s38:=s6.trans s8
  have s08:=s03.trans s38
  have sheet8:SheetAt H8 D es':=sn.at'
  have bd:∀ e ∈ es',∀ x ∈ bnds e.2,x ∈ g:=fun e he=>zhl (ph.can e he) fun m m' em=>by rw [ph.sp e he,ph.sp e he,zmw inc bd1 e.1 em]
  have span':∀ e ∈ es',e.2.length ≤ 21:=fun e he=>by have:=zki (ph.can e he) (bd e he); omega
  have e'l:es'.length ≤ 63:=by
   have:∀ l:List Ent,(∀ e ∈ l,e.2 ≠ []) → l.length ≤ (allS l).length:=fun l=>by
    unfold allS
    induction l with
    | nil=>intro _; exact Nat.le_refl _
    | cons e l ih =>
     intro h
     rw [List.flatMap_cons,List.length_append,List.length_cons]
     have:=List.length_pos_iff.mpr (h e List.mem_cons_self)
     have:=ih fun x hx=>h x (List.mem_cons_of_mem _ hx)
     omega
   have:=this es' ph.ne
   omega
  refine ⟨_,rfl,_,rfl,c1,_,rfl,.inl (SqL.of (s08 _ _ hc1)),?_⟩
  rw [show (colV cs).length = cs.length from List.length_map ..]
  refine ⟨D,cs.length,es',rfl,sheet8,fun e he=>⟨ph.can e he,ph.ne e he,by have:=span' e he; omega,w' e he⟩,by omega,ph.ord,ph.nd,by omega,fun H9 s9=>⟨_,rfl,iteF ?_⟩⟩
  have s39:=s38.trans s9
  refine ⟨_,rfl,_,rfl,_,_,zgo (SheetAt.same s39 hs1),zgo (SheetAt.same s39 sh3),zd6 _,zd6 _,_,rfl,?_⟩
  rw [zi4]
  refine iteF ?_
  have s09:=s08.trans s9
  refine ⟨_,rfl,l1,xs1,fs1,g,rfl,s09 _ _ hl1,zaH s09 pf1,by omega,fun x hx=>(gm x).mpr hx,fun p9 Hc bs s12 hp9 h12 incb memb lbs=>?_⟩
  have s8c:Same H8 Hc:=s9.trans s12
  have lfs:=zhs es'
  refine ⟨_,rfl,D,es',rfl,SheetAt.same s8c sheet8,by omega,fun p10 Hd us s13 hp10 h13 pus=>?_⟩
  have s8d:=s8c.trans s13
  have h9d:=s13 _ _ h12
  have tb:∀ x ∈ zbo (zak es'),x ∈ g:=fun x hx=>by obtain ⟨e,he,h⟩:=zfz.mp hx; exact bd e he x h
  refine ⟨_,rfl,p10,us,_,g,rfl,h13,pus,by omega,tb,fun p11 He ts s14 hp11 h14 inct memt lts=>?_⟩
  have s8e:=s8d.trans s14
  refine ⟨p11,rfl,⟨_,SqL.of h14⟩,zaA (K:=K) (a:=p11) (xs:=ts.map V.int) (fun i σ H'=>∃ (o7:Option V),σ = [some (.ref l1),some (.ref c1),some (.ref p5),some (.ref D1),some (.ref D),some (.ref p9),some (.ref p10),o7,none,none] ∧ H' = He)
   ⟨none,rfl,rfl⟩ (fun i σ H' _ ⟨_,_,e⟩=>by rw [e]; exact SqL.of h14) ?_ ?_⟩
  ·rintro i x σ H' hx ⟨o7,rfl,rfl⟩
   obtain ⟨c,hc,rfl⟩:=zdW hx
   have mb:c ∈ bs:=(memb c).mpr ((gm c).mp (tb c ((memt c).mp (List.mem_of_getElem? hc))))
   refine ⟨_,rfl,_,rfl,p9,_,rfl,.inl (SqL.of (s14 _ _ h9d)),rfl,zgs _,_,rfl,?_⟩
   rw [zi6,decide_eq_true mb]
   exact iteF ⟨_,rfl,rfl⟩
  rintro σ H' ⟨o7,rfl,rfl⟩
  refine ⟨_,rfl,p9,bs,rfl,s14 _ _ h9d,by omega,fun p12 Hf zs s15 hp12 h15 pz=>?_⟩
  have s0f:=s08.trans (s8e.trans s15)
  refine ⟨p12,rfl,⟨_,SqL.of h15⟩,zaA (K:=K) (a:=p12) (xs:=zs) (fun i σ H'=>∃ (o8 o9:Option V),σ = [some (.ref l1),some (.ref c1),some (.ref p5),some (.ref D1),some (.ref D),some (.ref p9),some (.ref p10),o7,o8,o9] ∧ Same Hf H')
   ⟨none,none,rfl,Same.refl Hf⟩ (fun i σ H' _ ⟨_,_,_,sm⟩=>SqL.of (sm _ _ h15)) ?_ ?_⟩
  ·rintro i x σ Hg hx ⟨o8,o9,rfl,sm⟩
   obtain ⟨pc,hpc,t,rfl,ht⟩:=zaj pz hx
   refine ⟨_,rfl,t,pc,rfl,sm _ _ ht,?_⟩
   generalize zaU pc = m
   have sg:Same Hd Hg:=s14.trans (s15.trans sm)
   refine ⟨_,rfl,_,rfl,p10,m,us,zak es',rfl,sg _ _ h13,zaH sg pus,fun f hf z=>?_,by have:=zkD ph.can m; omega,fun a3' Hk zs3 ls3 s19 ha3' h19 pz3 L3=>?_⟩
   ·obtain ⟨e,he,q,_⟩:=za5.mp hf
    have:=w' e he
    rw [← q,z] at this
    have:=List.length_pos_iff.mpr cne
    simp at *
    omega
   have s0k:Same H Hk:=s0f.trans (sm.trans s19)
   refine ⟨_,rfl,_,rfl,l1,m,xs1,fs1,rfl,s0k _ _ hl1,zaH s0k pf1,fun f hf=>(ne1 f hf).1,?_,fun a1' Hh zs1 ls1 s16 ha1' h16 pz1 L1=>?_⟩
   ·have:=List.length_filter_le (fun f:Fact=>inS m f.2) fs1
    unfold atF; rw [List.length_map]; omega
   have v1:∀ r ∈ ls1,r.length = n:=fun r hr=>by
    obtain ⟨f,hf,rfl⟩:=List.mem_map.mp ((L1.mem r).mp hr)
    exact (g1 f (List.mem_filter.mp hf).1).1
   have v2:ls1.length < 64:=by
    have h1:=zax L1.nd (m:=atF m fs1) fun r hr=>(L1.mem r).mp hr
    have h2:=List.length_filter_le (fun f:Fact=>inS m f.2) fs1
    unfold atF at h1
    rw [List.length_map] at h1
    omega
   refine ⟨_,rfl,a1',c1,zs1,ls1,cs,n,rfl,h16,pz1,(s0k.trans s16) _ _ hc1,v1,sub1,cne,by omega,v2,fun p14 Hj zs4 ls2 s18 hp14 h18 pz4 L2=>?_⟩
   have eq:ls3 = ls2:=zlK ph1 ph L1 L2 L3
   have skj:=s16.trans s18
   refine ⟨_,_,.lst (SqL.of (skj _ _ h19)) (zfA (Paired.mapP pz3 fun _ _ z=>RowAt.same skj z)),.lst (SqL.of h18) (zfA pz4),zet _,zet _,_,rfl,?_⟩
   rw [zjV,decide_eq_true eq]
   exact iteF ⟨_,_,rfl,sm.trans (s19.trans skj)⟩
  rintro σ Hg ⟨o8,o9,rfl,s16⟩
  exact k Hg (s0f.trans s16)
end
theorem zgg {ns:List Int} {lo hi:Option Int} {i:Nat} {y:V} (h:(cutV (ns.map V.int) lo hi)[i]? = some y) : ∃ c,y = V.int c:=by
 have:=List.mem_of_getElem? h
 unfold cutV at this
 obtain ⟨c,_,rfl⟩:=List.mem_map.mp (List.mem_of_mem_drop (List.mem_of_mem_take this))
 exact ⟨c,rfl⟩
structure Tab where
 nm:Str
 pt:Addr
 wd:Nat
 fs:List Fact
def TabAt (H:Hp) (t:Tab) : Prop:=∃ xs,H t.pt = some (.lst xs) ∧ Paired (FactAt H) xs t.fs ∧ (∀ f ∈ t.fs,f.1.length = t.wd ∧ okS f.2) ∧ t.fs.length ≤ 5 ∧ 1 ≤ t.wd ∧ t.wd ≤ 3
theorem TabAt.same {H H':Hp} {t:Tab} (h:TabAt H t) (s:Same H H') : TabAt H' t:=let ⟨xs,a,b,c⟩:=h; ⟨xs,s _ _ a,zaH s b,c⟩
theorem TabAt.off {H H':Hp} {t:Tab} (h:TabAt H t) (s:∀ c o,c ≠ c1 → H c = some o → H' c = some o) (n:t.pt ≠ c1) (nt:∀ xs,H c1 ≠ some (.tup xs)) : TabAt H' t:=by
 obtain ⟨xs,a,b,c⟩:=h
 refine ⟨xs,s _ _ n a,Paired.mapP b fun _ _ ⟨t,p,x1,x2,x3⟩=>⟨t,p,x1,s _ _ (fun z=>nt _ (z ▸ x2)) x2,s _ _ (fun z=>nt _ (z ▸ x3)) x3⟩,c⟩
def WdAt (H:Hp) (v:V) (t:Tab) : Prop:=∃ u,v = .ref u ∧ H u = some (.tup [.str t.nm,.int (t.wd:Int)])
section
variable {P:Program} {w:World} {K:PySem.W.Frag} {mg:Str → Option Value} {base:Heap}
def zcp:Sp:=fun vs H Q _=>∃ (a:Addr) (cells:List Int) (n:Nat),vs = [.ref a,.int (n:Int)] ∧ H a = some (.lst (cells.map V.int)) ∧ n < cells.length ∧ cells.length ≤ 100 ∧
 ∀ (t d wl pl:Addr) (H':Hp) (t0 t1:Tab) (ws:List V) (n':Nat),Same H H' → H t = none → H' t = some (.tup [.ref d,.ref wl,.ref pl,.int (n':Int)]) → n < n' → H' d = some (.dK [(Sum.inr t0.nm,.ref t0.pt),(Sum.inr t1.nm,.ref t1.pt)]) → t0.nm ≠ t1.nm → TabAt H' t0 → TabAt H' t1 → H' wl = some (.lst ws) → Paired (WdAt H') ws [t0,t1] → Q (.ref t) H'
theorem zas:FnScope ["_law_cells","_law_at_here","_law_head","_law_names","_law_pool_here","_law_first_here","_law_facts_here","_law_widths","_law_k","_law_size","_law_many"] ["_law_cells","_law_at_here"] (zad zcs):=⟨rfl,rfl,rfl,by decide +kernel,rfl,by decide +kernel,by decide +kernel⟩
theorem zge {f:Addr} {fd:FuncData} (F:Fun K "_law_made" "_law_made" zcs f fd) (B:Blts mg) (F__law_words:FnP P w K mg base 2 "_law_words" ["_law_cell","_law_many"] zca) (F__law_pool:FnP P w K mg base 2 "_law_pool" ["_law_cell"] zce) (F__law_first:FnP P w K mg base 2 "_law_first" ["_law_cell"] zb4) (F__law_mixed:FnP P w K mg base 1 "_law_mixed" ["_law_cell","_law_k"] zan) (F__law_fact:FnP P w K mg base 2 "_law_fact" ["_law_cell","_law_size","_law_pool_here","_law_first_here"] zbA) : FnOk P w K mg base CX0 3 f fd ["_law_cells","_law_at_here"] zcp:=by
 refine F.okJ zas (fun vs H Q E h=>?_) (fun cdv A outer s H vs Q E hr h=>?_)
 ·obtain ⟨_,_,_,rfl,_⟩:=h
  rfl
 ·obtain ⟨a,cells,n,rfl,ha,hn,l100,k⟩:=h
  have nd4:(["_law_cell","_law_size","_law_pool_here","_law_first_here"] : List Str).Nodup:=by decide +kernel
  refine ⟨_,(zab (zar 2 zas.nd (e_ix zaY (e_v 0) (e_v 1)))
   (zab (zar 3 zas.nd (e_fn F__law_words hr (ac (e_v 2) (a1 e_i))))
   (zab (zar 4 zas.nd (e_fn F__law_pool hr (a1 (e_op zc5 (e_v 2) e_i))))
   (zab (zar 5 zas.nd (e_fn F__law_first hr (a1 (e_op zc5 (e_v 2) e_i))))
   (zab (zhL 6 zas.nd zlP)
   (zab (zar 7 zas.nd (zbl a0))
   (zab (zar 1 zas.nd (e_op zbu (e_v 1) e_i))
   (zab (zbd (zcY B.range (a1 e_i)) (g_n 8 zas.nd)
    (zab (zar 9 zas.nd (e_op zbu e_i (e_op zbf (e_fn F__law_mixed hr (ac (e_v 2) (a1 (e_op zbu e_i (e_v 8))))) e_i)))
    (zab (zar 10 zas.nd (e_op zbf (e_fn F__law_mixed hr (ac (e_v 2) (a1 (e_op zbu e_i (e_v 8))))) e_i))
    (zab (znJ hr (e_v 6) (e_ix zaY (e_v 3) (e_v 8)) (zaZ (Nc:=["_law_cell","_law_size","_law_pool_here","_law_first_here"]) (js:=[none,some 9,some 4,some 5]) (g:=(zaw 0)) (tt:=tYes) (te:=(zcG zbA [] E0 (zal (tVar 0) (zal (tVar 1) (zal (tVar 2) (zal (tVar 3) tNil))))))
   (zaB rfl rfl rfl rfl (fun x c h=>by simp at h; rcases h with ⟨rfl,rfl⟩ | ⟨rfl,rfl⟩ | ⟨rfl,rfl⟩ <;> rfl) rfl rfl rfl) (zat (znw (e_v 0) (e_v 1) (e_op zbu (e_v 1) (e_v 10))))
   (fun pins C s3 H3 fp=>⟨(g_n 0 nd4),.inl ⟨rfl,rfl⟩,(e_fn F__law_fact hr (ac (e_v 0) (ac (e_v 1) (ac (e_v 2) (a1 (e_v 3))))))⟩)))
    (zab (zdB (e_v 7) (zbs (ac (e_ix zaY (e_v 3) (e_v 8)) (a1 (e_v 9)))))
    (zag (zar 1 zas.nd (e_op zbu (e_v 1) (e_v 10)))))))))
   (zag (zau (zbs (ac (e_v 6) (ac (e_v 7) (ac (e_v 4) (a1 (e_v 1)))))))))))))))),?_⟩
  obtain ⟨hd,ehd⟩ : ∃ x,cells[n]? = some x:=⟨cells[n],List.getElem?_eq_getElem hn⟩
  refine ⟨_,rfl,_,rfl,a,_,_,_,rfl,rfl,SqL.of ha,(show atI (cells.map V.int) (n:Int) = some (.int hd) from za1 (by rw [List.getElem?_map,ehd]; rfl)),?_⟩
  refine ⟨_,rfl,hd,2,rfl,by decide,fun pn H1 ys s1 hpn h1 ly nd lys=>?_⟩
  refine ⟨_,rfl,_,_,rfl,rfl,⟨by decide,by decide⟩,_,rfl,fun pl H2 x y z s2 hpl h2=>?_⟩
  refine ⟨_,rfl,_,_,rfl,rfl,⟨by decide,by decide⟩,_,rfl,fun fh=>?_⟩
  refine fun d hd2=>?_
  have s3:Same H2 (upd H2 d (.dK [])):=(Same.refl H2).upd hd2
  have u3:upd H2 d (.dK []) d = some (.dK []):=zaa
  generalize upd H2 d (.dK []) = H3 at s3 u3 ⊢
  refine ⟨Nat.zero_le _,fun wl hwl=>?_⟩
  have s4:Same H3 (upd H3 wl (.lst [])):=(Same.refl H3).upd hwl
  have u4:upd H3 wl (.lst []) wl = some (.lst []):=zaa
  generalize upd H3 wl (.lst []) = H4 at s4 u4 ⊢
  have ud4:=s4 _ _ u3
  have s04:Same H H4:=s1.trans (s2.trans (s3.trans s4))
  have fd:H d = none:=(s1.trans s2).free hd2
  have fw:H wl = none:=(s1.trans (s2.trans s3)).free hwl
  have hp4:=((s3.trans s4) _ _ h2)
  have hn4:=((s2.trans (s3.trans s4)) _ _ h1)
  have ndw:wl ≠ d:=fun z=>by rw [z,u3] at hwl; cases hwl
  have npd:pl ≠ d:=fun z=>by rw [z,hd2] at h2; cases h2
  have npw:pl ≠ wl:=fun z=>by rw [z] at h2; rw [s3 _ _ h2] at hwl; cases hwl
  have nnd:pn ≠ d:=fun z=>by have:=s2 _ _ h1; rw [z,hd2] at this; cases this
  have nnw:pn ≠ wl:=fun z=>by have:=(s2.trans s3) _ _ h1; rw [z,hwl] at this; cases this
  clear s1 s2 s3 s4 hpn hpl h1 h2 u3 hd2 hwl
  refine ⟨_,rfl,_,_,rfl,rfl,?_⟩
  refine ⟨_,rfl,by decide,by decide,zdc (n:=2) (fun i σ H'=>∃ (tabs:List Tab) (ws:List V) (m:Nat) (o8 o9 o10:Option V),σ = [some (.ref a),some (.int (m:Int)),some (.int hd),some (.ref pn),some (.ref pl),some (.int fh),some (.ref d),some (.ref wl),o8,o9,o10] ∧ Same H H' ∧ (∀ c o,c ≠ d → c ≠ wl → H4 c = some o → H' c = some o) ∧ H' d = some (.dK (tabs.map fun t=>(Sum.inr t.nm,.ref t.pt))) ∧ H' wl = some (.lst ws) ∧ tabs.map (·.nm) = ys.take i ∧ (∀ t ∈ tabs,TabAt H' t ∧ t.pt ≠ d ∧ t.pt ≠ wl) ∧ Paired (WdAt H') ws tabs ∧ n < m)
   ⟨[],[],n + 1,none,none,none,rfl,s04,fun _ _ _ _ h=>h,ud4,u4,rfl,(fun t h=>nomatch h),.nil,by omega⟩ ?_ ?_⟩
  ·rintro i σ H5 hi ⟨tabs,ws,m,o8,o9,o10,rfl,s05,kp,h5d,h5w,nms,tat,pw,nm⟩
   obtain ⟨y0,ey⟩ : ∃ y0,ys[i]? = some y0:=⟨ys[i],List.getElem?_eq_getElem (by omega)⟩
   have lt:tabs.length = i:=by have:=congrArg List.length nms; rw [List.length_map,List.length_take] at this; omega
   have lw:ws.length = i:=by rw [Paired.length pw,lt]
   refine ⟨_,rfl,_,rfl,_,_,rfl,rfl,hd,_,rfl,by show (0:Int) ≤ 10 + (0 + (i:Int)); omega,by show (10 + (0 + (i:Int)) : Int) ≤ 1000; omega,fun r1 _ _=>⟨_,_,rfl,rfl,pz,_,_,rfl,rfl,?_⟩⟩
   obtain ⟨L0,eL,hL⟩:=zdy (r:=r1) (n:=3) (by omega)
   refine ⟨_,rfl,_,rfl,_,_,rfl,rfl,hd,_,rfl,by show (0:Int) ≤ 12 + (0 + (i:Int)); omega,by show (12 + (0 + (i:Int)) : Int) ≤ 1000; omega,fun r2 _ _=>⟨_,_,rfl,rfl,pz,?_⟩⟩
   obtain ⟨c0,ec,hc⟩:=zdy (r:=r2) (n:=6) (by omega)
   have eL':(1:Int) + r1 % 3 = ((1 + L0:Nat) : Int):=by have:r1 % 3 = (L0:Int):=eL; omega
   have ec':r2 % 6 = (c0:Int):=ec
   show tSeq _ _ _ [some (.ref a),some (.int (m:Int)),some (.int hd),some (.ref pn),some (.ref pl),some (.int fh),some (.ref d),some (.ref wl),some (.int (0 + (i:Int))),some (.int (1 + r1 % 3)),some (.int (r2 % 6))] H5
   rw [eL',ec']
   have hn5:=kp _ _ nnd nnw hn4
   have hp5:=kp _ _ npd npw hp4
   have iy:atI (ys.map V.str) (0 + (i:Int)) = some (.str y0):=ix0 (by rw [List.getElem?_map,ey]; rfl)
   refine ⟨_,rfl,_,rfl,_,rfl,_,rfl,_,rfl,_,_,rfl,rfl,_,rfl,a,_,rfl,SqL.of (s05 _ _ ha),fun q hq=>?_⟩
   have lc:=zmX (cells.map V.int) m c0
   have ai:∀ {j:Nat} {v:V},(cutV (cells.map V.int) (some (m:Int)) (some ((m:Int) + (c0:Int))))[j]? = some v → ∃ c,v = V.int c:=fun h=>zgg h
   show ∃ b,_ = V.ref b ∧ _
   generalize cutV (cells.map V.int) (some (m:Int)) (some ((m:Int) + (c0:Int))) = cut at lc ai ⊢
   have s6:Same H5 (upd H5 q (.lst cut)):=(Same.refl H5).upd hq
   have u6:upd H5 q (.lst cut) q = some (.lst cut):=zaa
   generalize upd H5 q (.lst cut) = H6 at s6 u6 ⊢
   refine ⟨q,rfl,⟨cut,SqL.of u6⟩,fun D hD=>?_⟩
   refine zaC (K:=K) (a:=q) (xs:=cut) (fun j _ σ H7=>∃ (o0:Option V) (us:List V) (fs:List Fact),σ = [o0,some (.int ((1 + L0:Nat) : Int)),some (.ref pl),some (.int fh)] ∧ Same H6 H7 ∧ H7 D = some (.lst us) ∧ Paired (FactAt H7) us fs ∧ fs.length = j ∧ ∀ f ∈ fs,f.1.length = 1 + L0 ∧ okS f.2)
    ⟨none,[],[],rfl,(Same.refl H6).upd hD,zaa,.nil,rfl,fun f h=>nomatch h⟩ (fun j _ σ H7 _ ⟨_,_,_,_,sm,_⟩=>SqL.of (sm _ _ u6)) ?_ ?_
   ·rintro j v _ σ H7 hv ⟨o0,us,fs,rfl,sm,h7,pu,lf,good⟩
    obtain ⟨c,rfl⟩:=ai hv
    have hj:=(List.getElem?_eq_some_iff.mp hv).1
    have lu:us.length = j:=by rw [Paired.length pu,lf]
    refine ⟨_,rfl,_,rfl,_,rfl,_,rfl,c,fh,1 + L0,pl,x,y,z,rfl,sm _ _ (s6 _ _ hp5),by omega,fun t H8 f s8 ht8 fa fl fo=>?_⟩
    have h8:=s8 _ _ h7
    have nt:=zaJ h8
    refine ⟨us,h8,zae (by omega),[],_,us ++ [.ref t],fs ++ [f],rfl,(sm.trans s8).upd hD,zaa,?_,by rw [List.length_append,lf]; rfl,fun g hg=>?_⟩
    ·have wr:∀ {v:V} {f:Fact},FactAt H8 v f → FactAt (upd H8 D (.lst (us ++ [.ref t]))) v f:=fun {v f} ⟨t,p,a1,a2,a3⟩=>⟨t,p,a1,zao nt _ _ a2,zao nt _ _ a3⟩
     exact zah (R:=FactAt (upd H8 D (.lst (us ++ [.ref t])))) (wr fa) (Paired.mapP pu fun _ _ z=>wr (z.same s8))
    ·rcases List.mem_append.mp hg with z | z
     ·exact good g z
     ·rw [List.mem_singleton.mp z]; exact ⟨fl,fo⟩
   ·rintro _ σ H7 ⟨o0,us,fs,rfl,sm,h7,pu,lf,good⟩
    have s57:=s6.trans sm
    have h7d:=s57 _ _ h5d
    have h7w:=s57 _ _ h5w
    have nDd:D ≠ d:=fun z=>by rw [z,s6 _ _ h5d] at hD; cases hD
    have nDw:D ≠ wl:=fun z=>by rw [z,s6 _ _ h5w] at hD; cases hD
    have nk:(Sum.inr y0:Key) ∉ (tabs.map fun t=>((Sum.inr t.nm:Key),V.ref t.pt)).map (·.1):=by
     rw [List.map_map]
     intro z
     obtain ⟨t,ht,e⟩:=List.mem_map.mp z
     have e':t.nm = y0:=Sum.inr.inj e
     have hm:y0 ∈ ys.take i:=by rw [← nms,← e']; exact List.mem_map_of_mem ht
     obtain ⟨j,hj,e2⟩:=List.mem_iff_getElem.mp hm
     rw [List.length_take] at hj
     rw [List.getElem_take] at e2
     obtain ⟨hi2,e3⟩:=List.getElem?_eq_some_iff.mp ey
     exact (List.pairwise_iff_getElem.mp nd) j i (by omega) hi2 (by omega) (by rw [e2,e3])
    refine ⟨_,rfl,_,rfl,_,rfl,pn,_,_,_,rfl,rfl,SqL.of (s57 _ _ hn5),iy,d,_,rfl,DPut.k (k:=Sum.inr y0) h7d (by rw [List.length_map]; exact zae (by omega)),?_⟩
    rw [zk6 nk]
    have k8:∀ c o,c ≠ d → H7 c = some o → upd H7 d (.dK ((tabs.map fun t=>((Sum.inr t.nm:Key),V.ref t.pt)) ++ [(Sum.inr y0,.ref D)])) c = some o:=fun c o n h=>by rw [zai n]; exact h
    have u8:upd H7 d (.dK ((tabs.map fun t=>((Sum.inr t.nm:Key),V.ref t.pt)) ++ [(Sum.inr y0,.ref D)])) d = some (.dK ((tabs.map fun t=>((Sum.inr t.nm:Key),V.ref t.pt)) ++ [(Sum.inr y0,.ref D)])):=zaa
    have s8:Same H (upd H7 d (.dK ((tabs.map fun t=>((Sum.inr t.nm:Key),V.ref t.pt)) ++ [(Sum.inr y0,.ref D)]))):=(s05.trans s57).upd fd
    generalize upd H7 d (.dK ((tabs.map fun t=>((Sum.inr t.nm:Key),V.ref t.pt)) ++ [(Sum.inr y0,.ref D)])) = H8 at k8 u8 s8 ⊢
    have ntd:∀ xs,H7 d ≠ some (.tup xs):=fun xs z=>by rw [h7d] at z; cases z
    have h8w:=k8 _ _ ndw h7w
    have hn8:=k8 _ _ nnd (s57 _ _ hn5)
    refine ⟨_,rfl,.inl ⟨rfl,_,SqL.of h8w⟩,_,rfl,_,rfl,pn,_,_,_,rfl,rfl,SqL.of hn8,iy,_,rfl,by show 2 ≤ sizeLine; decide,fun u hu=>?_⟩
    have s9:Same H8 (upd H8 u (.tup [.str y0,.int ((1 + L0:Nat) : Int)])):=(Same.refl H8).upd hu
    have u9:upd H8 u (.tup [.str y0,.int ((1 + L0:Nat) : Int)]) u = some (.tup [.str y0,.int ((1 + L0:Nat) : Int)]):=zaa
    generalize upd H8 u (.tup [.str y0,.int ((1 + L0:Nat) : Int)]) = H9 at s9 u9 ⊢
    have h9w:=s9 _ _ h8w
    have ntw:∀ xs,H9 wl ≠ some (.tup xs):=fun xs z=>by rw [h9w] at z; cases z
    refine ⟨wl,ws,_,rfl,rfl,h9w,zae (by omega),_,rfl,_,rfl,_,_,rfl,rfl,?_⟩
    have k10:∀ c o,c ≠ wl → H9 c = some o → upd H9 wl (.lst (ws ++ [.ref u])) c = some o:=fun c o n h=>by rw [zai n]; exact h
    have u10:upd H9 wl (.lst (ws ++ [.ref u])) wl = some (.lst (ws ++ [.ref u])):=zaa
    have s10:Same H (upd H9 wl (.lst (ws ++ [.ref u]))):=(s8.trans s9).upd fw
    generalize upd H9 wl (.lst (ws ++ [.ref u])) = Ha at k10 u10 s10 ⊢
    have kall:∀ c o,c ≠ d → c ≠ wl → H7 c = some o → Ha c = some o:=fun c o n1 n2 h=>k10 c o n2 (s9 _ _ (k8 c o n1 h))
    have tup7:∀ {c:Addr} {xs:List V},H7 c = some (.tup xs) → Ha c = some (.tup xs):=fun {c xs} h=>kall c _ (fun z=>ntd _ (z ▸ h)) (fun z=>by rw [z,h7w] at h; cases h) h
    have tab7:∀ {t:Tab},TabAt H7 t → t.pt ≠ d → t.pt ≠ wl → TabAt Ha t:=fun {t} h n1 n2=>by
     obtain ⟨xs,a,b,c⟩:=h
     exact ⟨xs,kall _ _ n1 n2 a,Paired.mapP b fun _ _ ⟨t,p,x1,x2,x3⟩=>⟨t,p,x1,tup7 x2,tup7 x3⟩,c⟩
    refine ⟨tabs ++ [⟨y0,D,1 + L0,fs⟩],ws ++ [.ref u],m + c0,_,_,_,by show [_,some (V.int ((m:Int) + (c0:Int))),_,_,_,_,_,_,_,_,_] = _; rw [show ((m:Int) + (c0:Int)) = ((m + c0:Nat) : Int) by omega],s10,fun c o n1 n2 h=>kall c o n1 n2 (s57 _ _ (kp c o n1 n2 h)),?_,u10,?_,fun t ht=>?_,?_,by omega⟩
    ·rw [k10 d _ ndw.symm (s9 _ _ u8),List.map_append]; rfl
    ·rw [List.map_append,nms,take_snoc ey]; rfl
    ·rcases List.mem_append.mp ht with z | z
     ·obtain ⟨a1,a2,a3⟩:=tat t z
      exact ⟨tab7 (a1.same s57) a2 a3,a2,a3⟩
     ·rw [List.mem_singleton.mp z]
      exact ⟨tab7 ⟨us,h7,pu,good,by show fs.length ≤ 5; omega,by show 1 ≤ 1 + L0; omega,by show 1 + L0 ≤ 3; omega⟩ nDd nDw,nDd,nDw⟩
    ·refine zah (R:=WdAt Ha) ⟨u,rfl,k10 _ _ (fun z=>by rw [z,h8w] at hu; cases hu) u9⟩ (Paired.mapP pw fun _ _ ⟨v,b1,b2⟩=>⟨v,b1,tup7 (s57 _ _ b2)⟩)
  ·rintro σ H5 ⟨tabs,ws,m,o8,o9,o10,rfl,s05,kp,h5d,h5w,nms,tat,pw,nm⟩
   have l2:tabs.length = 2:=by have:=congrArg List.length nms; rw [List.length_map,List.length_take] at this; omega
   obtain ⟨t0,t1,rfl⟩ : ∃ t0 t1,tabs = [t0,t1]:=by
    match tabs,l2 with
    | [a,b],_=>exact ⟨a,b,rfl⟩
   refine ⟨_,rfl,_,rfl,_,rfl,_,rfl,by show 4 ≤ sizeLine; decide,fun t ht=>?_⟩
   have s6:Same H5 (upd H5 t (.tup [.ref d,.ref wl,.ref pl,.int (m:Int)])):=(Same.refl H5).upd ht
   have nn:t0.nm ≠ t1.nm:=by
    have e : [t0.nm,t1.nm] = ys.take 2:=nms
    have:=(nd.sublist (List.take_sublist 2 ys))
    rw [← e] at this
    intro z
    rw [z] at this
    exact (List.pairwise_cons.mp this).1 t1.nm (by simp) rfl
   exact k t d wl pl _ t0 t1 ws m (s05.trans s6) (s05.free ht) zaa nm (s6 _ _ h5d) nn ((tat t0 (by simp)).1.same s6) ((tat t1 (by simp)).1.same s6) (s6 _ _ h5w) (Paired.mapP pw fun _ _ ⟨u,a1,a2⟩=>⟨u,a1,s6 _ _ a2⟩)
end
theorem zn2 (x:Int) {n:Nat} (h:1 ≤ n) : ∃ c:Nat,x % (n:Int) = (c:Int) ∧ c < n:=zdy (r:=x) (by omega)
section
variable {P:Program} {w:World} {K:PySem.W.Frag} {mg:Str → Option Value} {base:Heap}
def zhA (K:PySem.W.Frag) : Sp:=fun vs H Q _=>∃ (a:Addr) (ns:List Int),vs = [.ref a] ∧ SqL K H a (ns.map V.int) ∧ ns.length ≤ 63 ∧ ∀ H',Q (.bl true) H'
theorem zcq:FnScope ["_law_script","_law_cells","_law_at_here","_law_head","_law_facts_here","_law_widths","_law_pool_here","_law_name","_law_size","_law_columns"] ["_law_script"] (zad ze7):=⟨rfl,rfl,rfl,by decide +kernel,rfl,by decide +kernel,by decide +kernel⟩
theorem zm9 {f:Addr} {fd:FuncData} (F:Fun K "law" "law" ze7 f fd) (B:Blts mg) (F__law_made:FnP P w K mg base 3 "_law_made" ["_law_cells","_law_at_here"] zcp) (F__law_mixed:FnP P w K mg base 1 "_law_mixed" ["_law_cell","_law_k"] zan) (F__law_right:FnP P w K mg base 8 "_law_right" ["_law_facts_here","_law_columns"] zbQ) : FnOk P w K mg base CX0 9 f fd ["_law_script"] (zhA K):=by
 refine F.okJ zcq (fun vs H Q E h=>?_) (fun cdv A outer s H vs Q E hr h=>?_)
 ·obtain ⟨_,_,rfl,_⟩:=h
  rfl
 ·obtain ⟨a,ns,rfl,hS,h63,k⟩:=h
  have nda:(["_law_k","_law_size","_law_head"] : List Str).Nodup:=by decide +kernel
  refine ⟨_,(zab (zar 1 zcq.nd (e_op zhT (zld (e_v 0) e_i) (zbl (a1 e_i))))
   (zab (zar 2 zcq.nd e_i)
   (zab (zmi (zaW o_lt (e_v 2) (e_cb zcM B.len PySem.boot_len (a1 (e_v 1))))
    (zab (zar 3 zcq.nd (e_ix zaY (e_v 1) (e_v 2)))
    (zab (zl2 (e_fn F__law_made hr (ac (e_v 1) (a1 (e_v 2)))) (zbv (zaf (g_n 4 zcq.nd) (zaf (g_n 5 zcq.nd) (zaf (g_n 6 zcq.nd) (zaf (g_n 2 zcq.nd) zaR))))))
    (zag (zbd (zat (e_v 5)) (zbv (zaf (g_n 7 zcq.nd) (zaf (g_n 8 zcq.nd) zaR)))
     (zab (zlF 9 zcq.nd (Nc:=["_law_k","_law_size","_law_head"]) (js:=[none,some 8,some 3]) (g:=(zaw 0)) (tt:=tYes) (te:=(tOp (rI (fun _ j=>0 < j) fun i j=>.int (i % j)) (zcG zan [] E0 (zal (tVar 2) (zal (tOp (rI0 fun i j=>.int (i + j)) (tC (.int 14)) (tVar 0)) tNil))) (tVar 1)))
   (zaB rfl rfl rfl rfl (fun x c h=>by simp at h; rcases h with ⟨rfl,rfl⟩ | ⟨rfl,rfl⟩ <;> rfl) rfl rfl rfl) (zcY B.range (a1 (e_op zbu e_i (e_op zbf (e_op zc5 (e_v 3) e_i) e_i))))
   (fun pins C s3 H3 fp=>⟨(g_n 0 nda),.inl ⟨rfl,rfl⟩,(e_op zbf (e_fn F__law_mixed hr (ac (e_v 2) (a1 (e_op zbu e_i (e_v 0))))) (e_v 1))⟩))
     (zag (s_if (zdA (zcz (e_fn F__law_right hr (ac (zjX hr (e_v 4) (e_v 7)) (a1 (e_v 9)))))) (zag (zau e_b)) zaS))))))))
   (zag (zau e_b))))),?_⟩
  refine ⟨_,rfl,_,rfl,a,_,rfl,hS,fun p1 hp1=>?_⟩
  have u1:upd H p1 (.lst (cutV (ns.map V.int) none (some (63:Int)))) p1 = some (.lst ((ns.take 63).map V.int)):=by rw [zaa,show (63:Int) = ((63:Nat) : Int) from rfl,zkW]
  have s1:Same H (upd H p1 (.lst (cutV (ns.map V.int) none (some (63:Int))))):=(Same.refl H).upd hp1
  generalize upd H p1 (.lst (cutV (ns.map V.int) none (some (63:Int)))) = H1 at s1 u1 ⊢
  refine ⟨by show 1 ≤ sizeLine; decide,fun p2 hp2=>?_⟩
  have s2:Same H1 (upd H1 p2 (.lst [.int 0])):=(Same.refl H1).upd hp2
  have u2:upd H1 p2 (.lst [.int 0]) p2 = some (.lst [.int 0]):=zaa
  generalize upd H1 p2 (.lst [.int 0]) = H2 at s2 u2 ⊢
  refine ⟨p1,p2,_,_,rfl,rfl,s2 _ _ u1,u2,by rw [List.length_map,List.length_take]; exact Nat.le_of_lt (zae (by simp; omega)),fun pc hpc=>?_⟩
  have ec:(ns.take 63).map V.int ++ [V.int 0] = (ns.take 63 ++ [0]).map V.int:=by rw [List.map_append]; rfl
  rw [ec]
  have lc:(ns.take 63 ++ [0]).length ≤ 64:=by rw [List.length_append,List.length_take,List.length_singleton]; omega
  generalize ns.take 63 ++ [0] = cells at lc ⊢
  have s3:Same H2 (upd H2 pc (.lst (cells.map V.int))):=(Same.refl H2).upd hpc
  have u3:upd H2 pc (.lst (cells.map V.int)) pc = some (.lst (cells.map V.int)):=zaa
  generalize upd H2 pc (.lst (cells.map V.int)) = H3 at s3 u3 ⊢
  clear s1 s2 s3 u1 u2 hp1 hp2 hpc ec
  refine ⟨fun q σ H'=>∃ (m:Nat) (o3 o4 o5 o6 o7 o8 o9:Option V),σ = [some (.ref a),some (.ref pc),some (.int (m:Int)),o3,o4,o5,o6,o7,o8,o9] ∧ Same H3 H' ∧ q = cells.length - m,
   ⟨_,0,none,none,none,none,none,none,none,rfl,Same.refl H3,rfl⟩,?_⟩
  rintro q σ H4 ⟨m,o3,o4,o5,o6,o7,o8,o9,rfl,s4,rfl⟩
  refine ⟨_,rfl,_,rfl,pc,_,rfl,.inl (SqL.of (s4 _ _ u3)),_,_,rfl,rfl,_,rfl,?_⟩
  rw [List.length_map]
  refine ite2 (fun hlt=>?_) (fun _=>k H4)
  have hm:m < cells.length:=by have:=of_decide_eq_true hlt; omega
  refine ⟨fun σ' H'=>∃ (m':Nat) (o3 o4 o5 o6 o7 o8 o9:Option V),σ' = [some (.ref a),some (.ref pc),some (.int (m':Int)),o3,o4,o5,o6,o7,o8,o9] ∧ Same H3 H' ∧ m < m',?_,?_⟩
  ·rintro σ' H' ⟨m',o3,o4,o5,o6,o7,o8,o9,e,st,lt⟩
   exact ⟨cells.length - m',by omega,m',o3,o4,o5,o6,o7,o8,o9,e,st,rfl⟩
  obtain ⟨hd,ehd⟩ : ∃ x,cells[m]? = some x:=⟨cells[m],List.getElem?_eq_getElem hm⟩
  refine ⟨_,rfl,_,rfl,pc,_,_,_,rfl,rfl,SqL.of (s4 _ _ u3),(show atI (cells.map V.int) (m:Int) = some (.int hd) from za1 (by rw [List.getElem?_map,ehd]; rfl)),?_⟩
  refine ⟨_,rfl,_,rfl,pc,cells,m,rfl,s4 _ _ u3,hm,by omega,fun t d wl pl H5 t0 t1 ws n' s5 _ ht lt hd5 nn ta0 ta1 hwl pws=>?_⟩
  have s35:Same H3 H5:=s4.trans s5
  refine ⟨t,_,rfl,SqT.of ht,rfl,_,_,rfl,_,_,rfl,_,_,rfl,_,_,rfl,rfl,?_⟩
  have lw:ws.length = 2:=Paired.length pws
  refine ⟨_,rfl,wl,rfl,⟨ws,SqL.of hwl⟩,zaA (K:=K) (a:=wl) (xs:=ws) (fun i σ H'=>∃ (o7 o8 o9:Option V),σ = [some (.ref a),some (.ref pc),some (.int (n':Int)),some (.int hd),some (.ref d),some (.ref wl),some (.ref pl),o7,o8,o9] ∧ Same H5 H')
   ⟨_,_,_,rfl,Same.refl H5⟩ (fun i σ H' _ ⟨_,_,_,_,sm⟩=>SqL.of (sm _ _ hwl)) ?_ ?_⟩
  ·rintro i x σ H6 hx ⟨o7,o8,o9,rfl,s6⟩
   obtain ⟨tb,htb,u,rfl,hu⟩:=zaj pws hx
   have tat:TabAt H5 tb:=by
    have:=List.mem_of_getElem? htb
    simp at this
    rcases this with rfl | rfl
    ·exact ta0
    ·exact ta1
   have get:∀ {Hx:Hp},Same H5 Hx → DGet Hx d (.str tb.nm) (some (.ref tb.pt)):=fun {Hx} s=>by
    have:=List.mem_of_getElem? htb
    simp at this
    rcases this with rfl | rfl
    ·exact .inl ⟨_,Sum.inr tb.nm,.inl (s _ _ hd5),rfl,by rw [zb7 rfl]⟩
    ·exact .inl ⟨_,Sum.inr tb.nm,.inl (s _ _ hd5),rfl,by rw [zbB (fun z=>nn (Sum.inr.inj z)),zb7 rfl]⟩
   obtain ⟨x0,hx0,pf0,gd0,lf0,wa0,wb0⟩:=id tat
   refine ⟨u,_,rfl,SqT.of (s6 _ _ hu),rfl,_,_,rfl,_,_,rfl,rfl,?_⟩
   obtain ⟨c0,ec,hc⟩:=zdy (r:=hd / 5) (n:=3) (by omega)
   have ec':(1:Int) + hd / 5 % 3 = ((1 + c0:Nat) : Int):=by have:hd / 5 % 3 = (c0:Int):=ec; omega
   refine ⟨_,rfl,_,_,rfl,rfl,⟨by decide,by decide⟩,_,_,rfl,rfl,pz,_,_,rfl,rfl,?_⟩
   dsimp only
   rw [ec']
   refine ⟨_,rfl,by omega,by omega,fun D1 hD1=>?_⟩
   rw [Int.toNat_natCast]
   refine zbM (n:=1 + c0) (fun i σ H'=>∃ (o:Option V) (cs:List Nat),σ = [o,some (.int (tb.wd:Int)),some (.int hd)] ∧ Same H6 H' ∧ H' D1 = some (.lst (colV cs)) ∧ cs.length = i ∧ ∀ x ∈ cs,x < tb.wd) ⟨none,[],rfl,(Same.refl H6).upd hD1,zaa,rfl,fun x h=>nomatch h⟩ ?_ ?_
   ·rintro i σ H' hi ⟨o,cs,rfl,sm,hl,lr,sub⟩
    refine ⟨_,rfl,_,rfl,_,_,rfl,rfl,hd,_,rfl,by show (0:Int) ≤ 14 + (0 + (i:Int)); omega,by show (14 + (0 + (i:Int)) : Int) ≤ 1000; omega,fun r r0 r1=>?_⟩
    obtain ⟨x,ex,hx⟩:=zn2 r wa0
    have hpos:(0:Int) < (tb.wd:Int):=by omega
    refine ⟨_,rfl,_,_,rfl,rfl,hpos,?_⟩
    dsimp only
    rw [ex]
    exact ⟨_,hl,zae (by unfold colV; rw [List.length_map]; omega),_,cs ++ [x],rfl,sm.upd hD1,by rw [zaa]; unfold colV; rw [List.map_append]; rfl,by rw [List.length_append,lr]; rfl,fun y hy=>(List.mem_append.mp hy).elim (sub y) fun z=>by rw [List.mem_singleton.mp z]; exact hx⟩
   rintro σ H7 ⟨o,cs,rfl,s7,hc7,lcs,sub0⟩
   have s57:Same H5 H7:=s6.trans s7
   have cne:cs ≠ []:=fun z=>by rw [z] at lcs; simp at lcs; omega
   exact ⟨_,rfl,_,rfl,d,_,rfl,get s57,_,rfl,tb.pt,D1,tb.wd,x0,tb.fs,cs,rfl,s57 _ _ hx0,zaH s57 pf0,hc7,gd0,lf0,sub0,cne,by omega,wa0,wb0,fun H8 s8=>⟨_,rfl,iteF ⟨_,_,_,rfl,s57.trans s8⟩⟩⟩
  ·rintro σ H6 ⟨o7,o8,o9,rfl,s6⟩
   exact ⟨n',_,_,_,_,_,_,_,rfl,s35.trans s6,lt⟩
end
end Prf
def PySem.W.Fast.tw13107961868897593104:Unit:=()
def PySem.W.Fast.tw2006769880611149029:Unit:=()
def PySem.W.Fast.tw11883990849825123213:Unit:=()
def PySem.W.Fast.tw1550256966803426551:Unit:=()
def PySem.W.Fast.tw6782018395785136521:Unit:=()
def PySem.W.Fast.tw15823410125159225600:Unit:=()
def PySem.W.Fast.tw17878442619896359608:Unit:=()
def PySem.W.Fast.tw9370111153795944030:Unit:=()
namespace Prf
open PySem L2 Wr
abbrev FA (K:PySem.W.Frag) (x:Str) (t:Stmt) (f:Addr) (oc:Value) (od:Option Addr) (kV dc pm:Value) (an:Option Addr) (cd ct:Value) (sl:Array (Option Value)) : Prop:=PySem.W.nsIn K mainGlobals x = some (some (.ref f)) ∧ K.lookup f = some ⟨oc,od,.func (PySem.W.fnOf x x (zbD t) (zbe t) (zad t) .none kV dc pm an cd ct),sl⟩ ∧ PySem.W.codeIn K cd x = true ∧ PySem.W.keepIn K (.ref f) = true
theorem ar1 {α:Type} {us:List α} (h:us.length = 1) : ∃ a,us = [a]:=List.length_eq_one_iff.mp h
theorem ar2 {α:Type} {us:List α} (h:us.length = 2) : ∃ a0 a1,us = [a0,a1]:=by
 match us,h with
 | [a0,a1],_=>exact ⟨a0,a1,rfl⟩
theorem ar3 {α:Type} {us:List α} (h:us.length = 3) : ∃ a0 a1 a2,us = [a0,a1,a2]:=by
 match us,h with
 | [a0,a1,a2],_=>exact ⟨a0,a1,a2,rfl⟩
theorem ar4 {α:Type} {us:List α} (h:us.length = 4) : ∃ a0 a1 a2 a3,us = [a0,a1,a2,a3]:=by
 match us,h with
 | [a0,a1,a2,a3],_=>exact ⟨a0,a1,a2,a3,rfl⟩
theorem all_mk {l:PySem.W.OpenLaw} {w:World} {K:PySem.W.Frag} {h:Heap} {mg:Str → Option Value} {C q0 q1 q2 q3 fa f0 f1 f2 f3 f4 f5 f6 f7 f8 f9 f10 f11 f12 f13 f14 f15 f16 f17 f18 f19 f20 f21 f22 f23 f24 f25 f26 f27 f28 f29 f30 f31 f32 f33 f34:Addr} (X:K.In h) (G:h.Ns mainGlobals mg) (hfa:mg "law" = some (.ref fa))
  {od0 an0 od1 an1 od2 an2 od3 an3 od4 an4 od5 an5 od6 an6 od7 an7 od8 an8 od9 an9 od10 an10 od11 an11 od12 an12 od13 an13 od14 an14 od15 an15 od16 an16 od17 an17 od18 an18 od19 an19 od20 an20 od21 an21 od22 an22 od23 an23 od24 an24 od25 an25 od26 an26 od27 an27 od28 an28 od29 an29 od30 an30 od31 an31 od32 an32 od33 an33 od34 an34:Option Addr} {sl0 sl1 sl2 sl3 sl4 sl5 sl6 sl7 sl8 sl9 sl10 sl11 sl12 sl13 sl14 sl15 sl16 sl17 sl18 sl19 sl20 sl21 sl22 sl23 sl24 sl25 sl26 sl27 sl28 sl29 sl30 sl31 sl32 sl33 sl34:Array (Option Value)} {oc0 kV0 dc0 pm0 cd0 ct0 oc1 kV1 dc1 pm1 cd1 ct1 oc2 kV2 dc2 pm2 cd2 ct2 oc3 kV3 dc3 pm3 cd3 ct3 oc4 kV4 dc4 pm4 cd4 ct4 oc5 kV5 dc5 pm5 cd5 ct5 oc6 kV6 dc6 pm6 cd6 ct6 oc7 kV7 dc7 pm7 cd7 ct7 oc8 kV8 dc8 pm8 cd8 ct8 oc9 kV9 dc9 pm9 cd9 ct9 oc10 kV10 dc10 pm10 cd10 ct10 oc11 kV11 dc11 pm11 cd11 ct11 oc12 kV12 dc12 pm12 cd12 ct12 oc13 kV13 dc13 pm13 cd13 ct13 oc14 kV14 dc14 pm14 cd14 ct14 oc15 kV15 dc15 pm15 cd15 ct15 oc16 kV16 dc16 pm16 cd16 ct16 oc17 kV17 dc17 pm17 cd17 ct17 oc18 kV18 dc18 pm18 cd18 ct18 oc19 kV19 dc19 pm19 cd19 ct19 oc20 kV20 dc20 pm20 cd20 ct20 oc21 kV21 dc21 pm21 cd21 ct21 oc22 kV22 dc22 pm22 cd22 ct22 oc23 kV23 dc23 pm23 cd23 ct23 oc24 kV24 dc24 pm24 cd24 ct24 oc25 kV25 dc25 pm25 cd25 ct25 oc26 kV26 dc26 pm26 cd26 ct26 oc27 kV27 dc27 pm27 cd27 ct27 oc28 kV28 dc28 pm28 cd28 ct28 oc29 kV29 dc29 pm29 cd29 ct29 oc30 kV30 dc30 pm30 cd30 ct30 oc31 kV31 dc31 pm31 cd31 ct31 oc32 kV32 dc32 pm32 cd32 ct32 oc33 kV33 dc33 pm33 cd33 ct33 oc34 kV34 dc34 pm34 cd34 ct34:Value}
  (h0:FA K "cells_in" (top 5) f0 oc0 od0 kV0 dc0 pm0 an0 cd0 ct0 sl0)
  (h1:FA K "is_stretch" (top 7) f1 oc1 od1 kV1 dc1 pm1 an1 cd1 ct1 sl1)
  (h2:FA K "refuse_no_stretch" (top 8) f2 oc2 od2 kV2 dc2 pm2 an2 cd2 ct2 sl2)
  (h3:FA K "tidied" (top 9) f3 oc3 od3 kV3 dc3 pm3 an3 cd3 ct3 sl3)
  (h4:FA K "start_order" (top 10) f4 oc4 od4 kV4 dc4 pm4 an4 cd4 ct4 sl4)
  (h5:FA K "reaches" (top 11) f5 oc5 od5 kV5 dc5 pm5 an5 cd5 ct5 sl5)
  (h6:FA K "later_end" (top 12) f6 oc6 od6 kV6 dc6 pm6 an6 cd6 ct6 sl6)
  (h7:FA K "sheet_of" (top 14) f7 oc7 od7 kV7 dc7 pm7 an7 cd7 ct7 sl7)
  (h8:FA K "refuse_unlike_widths" (top 15) f8 oc8 od8 kV8 dc8 pm8 an8 cd8 ct8 sl8)
  (h9:FA K "facts_of" (top 16) f9 oc9 od9 kV9 dc9 pm9 an9 cd9 ct9 sl9)
  (h10:FA K "tallied" (top 21) f10 oc10 od10 kV10 dc10 pm10 an10 cd10 ct10 sl10)
  (h11:FA K "turns_of" (top 22) f11 oc11 od11 kV11 dc11 pm11 an11 cd11 ct11 sl11)
  (h12:FA K "groups_over_time" (top 24) f12 oc12 od12 kV12 dc12 pm12 an12 cd12 ct12 sl12)
  (h13:FA K "key_broken" (top 26) f13 oc13 od13 kV13 dc13 pm13 an13 cd13 ct13 sl13)
  (h14:FA K "_law_whole" (top 28) f14 oc14 od14 kV14 dc14 pm14 an14 cd14 ct14 sl14)
  (h15:FA K "_law_mixed" (top 29) f15 oc15 od15 kV15 dc15 pm15 an15 cd15 ct15 sl15)
  (h16:FA K "_law_words" (top 30) f16 oc16 od16 kV16 dc16 pm16 an16 cd16 ct16 sl16)
  (h17:FA K "_law_pool" (top 31) f17 oc17 od17 kV17 dc17 pm17 an17 cd17 ct17 sl17)
  (h18:FA K "_law_lines" (top 32) f18 oc18 od18 kV18 dc18 pm18 an18 cd18 ct18 sl18)
  (h19:FA K "_law_covers" (top 33) f19 oc19 od19 kV19 dc19 pm19 an19 cd19 ct19 sl19)
  (h20:FA K "_law_bounds" (top 34) f20 oc20 od20 kV20 dc20 pm20 an20 cd20 ct20 sl20)
  (h21:FA K "_law_pieces" (top 35) f21 oc21 od21 kV21 dc21 pm21 an21 cd21 ct21 sl21)
  (h22:FA K "_law_within" (top 36) f22 oc22 od22 kV22 dc22 pm22 an22 cd22 ct22 sl22)
  (h23:FA K "_law_span" (top 37) f23 oc23 od23 kV23 dc23 pm23 an23 cd23 ct23 sl23)
  (h24:FA K "_law_sheet" (top 38) f24 oc24 od24 kV24 dc24 pm24 an24 cd24 ct24 sl24)
  (h25:FA K "_law_at" (top 39) f25 oc25 od25 kV25 dc25 pm25 an25 cd25 ct25 sl25)
  (h26:FA K "_law_facts" (top 40) f26 oc26 od26 kV26 dc26 pm26 an26 cd26 ct26 sl26)
  (h27:FA K "_law_is_span" (top 41) f27 oc27 od27 kV27 dc27 pm27 an27 cd27 ct27 sl27)
  (h28:FA K "_law_is_sheet" (top 42) f28 oc28 od28 kV28 dc28 pm28 an28 cd28 ct28 sl28)
  (h29:FA K "_law_fact" (top 43) f29 oc29 od29 kV29 dc29 pm29 an29 cd29 ct29 sl29)
  (h30:FA K "_law_first" (top 44) f30 oc30 od30 kV30 dc30 pm30 an30 cd30 ct30 sl30)
  (h31:FA K "_law_made" (top 45) f31 oc31 od31 kV31 dc31 pm31 an31 cd31 ct31 sl31)
  (h32:FA K "_law_due" (top 46) f32 oc32 od32 kV32 dc32 pm32 an32 cd32 ct32 sl32)
  (h33:FA K "_law_right" (top 47) f33 oc33 od33 kV33 dc33 pm33 an33 cd33 ct33 sl33)
  (h34:FA K "law" (top 48) f34 oc34 od34 kV34 dc34 pm34 an34 cd34 ct34 sl34)
  {xo0 xa0 xo1 xa1 xo2 xa2 xo3 xa3:Option Addr} {xs0 xs1 xs2 xs3:Array (Option Value)} {xc0 xk0 xd0 xp0 xe0 xt0 xc1 xk1 xd1 xp1 xe1 xt1 xc2 xk2 xd2 xp2 xe2 xt2 xc3 xk3 xd3 xp3 xe3 xt3:Value}
  (cC:PySem.W.nsIn K mainGlobals "Tally" = some (some (.ref C))) (cl1:PySem.W.plainGet K C Str.empty = true) (cl2:PySem.W.hasDictIn K C = true) (cl3:PySem.W.plainOver K C = true) (cl4:PySem.W.findIn K (.ref C) "__setattr__" = some (some (.builtin "object.__setattr__")))
  (na0:NoAttr K C "sums") (na1:NoAttr K C "height") (na2:NoAttr K C "totals") (na3:NoAttr K C "rising") (cm:PySem.W.makesIn K C = true) (ck:PySem.W.keepIn K (.ref C) = true)
  (ma0:PySem.W.findIn K (.ref C) "__init__" = some (some (.ref q0))) (ml0:K.lookup q0 = some ⟨xc0,xo0,.func (PySem.W.fnOf "__init__" "Tally.__init__" (zbD (inClass (top 18) 0)) (zbe (inClass (top 18) 0)) (zad (inClass (top 18) 0)) .none xk0 xd0 xp0 xa0 xe0 xt0),xs0⟩) (mc0:PySem.W.codeIn K xe0 "Tally.__init__" = true) (mk0:PySem.W.keepIn K (.ref q0) = true) (mn0:PySem.W.isFn K (.ref q0) = true)
  (ma1:PySem.W.findIn K (.ref C) "turn" = some (some (.ref q1))) (ml1:K.lookup q1 = some ⟨xc1,xo1,.func (PySem.W.fnOf "turn" "Tally.turn" (zbD (inClass (top 18) 1)) (zbe (inClass (top 18) 1)) (zad (inClass (top 18) 1)) .none xk1 xd1 xp1 xa1 xe1 xt1),xs1⟩) (mc1:PySem.W.codeIn K xe1 "Tally.turn" = true) (mk1:PySem.W.keepIn K (.ref q1) = true) (mn1:PySem.W.isFn K (.ref q1) = true)
  (ma2:PySem.W.findIn K (.ref C) "told" = some (some (.ref q2))) (ml2:K.lookup q2 = some ⟨xc2,xo2,.func (PySem.W.fnOf "told" "Tally.told" (zbD (inClass (top 18) 2)) (zbe (inClass (top 18) 2)) (zad (inClass (top 18) 2)) .none xk2 xd2 xp2 xa2 xe2 xt2),xs2⟩) (mc2:PySem.W.codeIn K xe2 "Tally.told" = true) (mk2:PySem.W.keepIn K (.ref q2) = true) (mn2:PySem.W.isFn K (.ref q2) = true)
  (ma3:PySem.W.findIn K (.ref C) "cell_at" = some (some (.ref q3))) (ml3:K.lookup q3 = some ⟨xc3,xo3,.func (PySem.W.fnOf "cell_at" "Tally.cell_at" (zbD (inClass (top 18) 3)) (zbe (inClass (top 18) 3)) (zad (inClass (top 18) 3)) .none xk3 xd3 xp3 xa3 xe3 xt3),xs3⟩) (mc3:PySem.W.codeIn K xe3 "Tally.cell_at" = true) (mk3:PySem.W.keepIn K (.ref q3) = true) (mn3:PySem.W.isFn K (.ref q3) = true)
  (z0:PySem.W.nsIn K mainGlobals "sorted" = some none)
  (z1:PySem.W.nsIn K mainGlobals "max" = some none)
  (z2:PySem.W.nsIn K mainGlobals "min" = some none)
  (z3:PySem.W.nsIn K mainGlobals "any" = some none)
  (z4:PySem.W.nsIn K mainGlobals "all" = some none)
  (z5:PySem.W.nsIn K mainGlobals "sum" = some none)
  (z6:PySem.W.nsIn K mainGlobals "len" = some none)
  (z7:PySem.W.nsIn K mainGlobals "range" = some none)
  (z8:PySem.W.nsIn K mainGlobals "isinstance" = some none)
  (z9:PySem.W.nsIn K mainGlobals "list" = some none)
  (z10:PySem.W.nsIn K mainGlobals "tuple" = some none)
  (z11:PySem.W.nsIn K mainGlobals "int" = some none)
  (z12:PySem.W.nsIn K mainGlobals "bool" = some none)
  (z13:PySem.W.nsIn K mainGlobals "str" = some none)
  (z14:PySem.W.nsIn K mainGlobals "dict" = some none)
  (z15:PySem.W.nsIn K mainGlobals "set" = some none)
  (z16:PySem.W.nsIn K mainGlobals "zip" = some none)
  (z17:PySem.W.nsIn K mainGlobals "enumerate" = some none)
  (z18:PySem.W.nsIn K mainGlobals "reversed" = some none)
  : ∃ fd:FuncData,(∀ (s:Shared) (v:Value),BindsTo s fd ⟨[v],[]⟩ [("_law_script", v)]) ∧ ∀ base:Heap,K.In base → base.Ns mainGlobals mg → FnOk l.prog w K mg base CX0 9 fa fd ["_law_script"] (zhA K):=by
 obtain ⟨a0,l0,c0,k0⟩:=h0
 obtain ⟨a1,l1,c1,k1⟩:=h1
 obtain ⟨a2,l2,c2,k2⟩:=h2
 obtain ⟨a3,l3,c3,k3⟩:=h3
 obtain ⟨a4,l4,c4,k4⟩:=h4
 obtain ⟨a5,l5,c5,k5⟩:=h5
 obtain ⟨a6,l6,c6,k6⟩:=h6
 obtain ⟨a7,l7,c7,k7⟩:=h7
 obtain ⟨a8,l8,c8,k8⟩:=h8
 obtain ⟨a9,l9,c9,k9⟩:=h9
 obtain ⟨a10,l10,c10,k10⟩:=h10
 obtain ⟨a11,l11,c11,k11⟩:=h11
 obtain ⟨a12,l12,c12,k12⟩:=h12
 obtain ⟨a13,l13,c13,k13⟩:=h13
 obtain ⟨a14,l14,c14,k14⟩:=h14
 obtain ⟨a15,l15,c15,k15⟩:=h15
 obtain ⟨a16,l16,c16,k16⟩:=h16
 obtain ⟨a17,l17,c17,k17⟩:=h17
 obtain ⟨a18,l18,c18,k18⟩:=h18
 obtain ⟨a19,l19,c19,k19⟩:=h19
 obtain ⟨a20,l20,c20,k20⟩:=h20
 obtain ⟨a21,l21,c21,k21⟩:=h21
 obtain ⟨a22,l22,c22,k22⟩:=h22
 obtain ⟨a23,l23,c23,k23⟩:=h23
 obtain ⟨a24,l24,c24,k24⟩:=h24
 obtain ⟨a25,l25,c25,k25⟩:=h25
 obtain ⟨a26,l26,c26,k26⟩:=h26
 obtain ⟨a27,l27,c27,k27⟩:=h27
 obtain ⟨a28,l28,c28,k28⟩:=h28
 obtain ⟨a29,l29,c29,k29⟩:=h29
 obtain ⟨a30,l30,c30,k30⟩:=h30
 obtain ⟨a31,l31,c31,k31⟩:=h31
 obtain ⟨a32,l32,c32,k32⟩:=h32
 obtain ⟨a33,l33,c33,k33⟩:=h33
 obtain ⟨a34,l34,c34,k34⟩:=h34
 have e:=hfa.symm.trans (PySem.W.mg_of X G a34)
 cases e
 have F0:=zap (x := "cells_in") (qual := "cells_in") (st:=zcK) l0 c0 k0
 have b0:=F0.binds (ps:=["row","columns"]) fun _ _ _ _ _ _ us hl=>by obtain ⟨_,_,rfl⟩:=ar2 hl; rfl
 have F1:=zap (x := "is_stretch") (qual := "is_stretch") (st:=zb8) l1 c1 k1
 have b1:=F1.binds (ps:=["start","end"]) fun _ _ _ _ _ _ us hl=>by obtain ⟨_,_,rfl⟩:=ar2 hl; rfl
 have F2:=zap (x := "refuse_no_stretch") (qual := "refuse_no_stretch") (st:=zaX) l2 c2 k2
 have b2:=F2.binds (ps:=["start","end"]) fun _ _ _ _ _ _ us hl=>by obtain ⟨_,_,rfl⟩:=ar2 hl; rfl
 have F3:=zap (x := "tidied") (qual := "tidied") (st:=zd1) l3 c3 k3
 have b3:=F3.binds (ps:=["stretches"]) fun _ _ _ _ _ _ us hl=>by obtain ⟨_,rfl⟩:=ar1 hl; rfl
 have F4:=zap (x := "start_order") (qual := "start_order") (st:=zbI) l4 c4 k4
 have b4:=F4.binds (ps:=["stretch"]) fun _ _ _ _ _ _ us hl=>by obtain ⟨_,rfl⟩:=ar1 hl; rfl
 have F5:=zap (x := "reaches") (qual := "reaches") (st:=zdi) l5 c5 k5
 have b5:=F5.binds (ps:=["stretch","start"]) fun _ _ _ _ _ _ us hl=>by obtain ⟨_,_,rfl⟩:=ar2 hl; rfl
 have F6:=zap (x := "later_end") (qual := "later_end") (st:=zcm) l6 c6 k6
 have b6:=F6.binds (ps:=["one","other"]) fun _ _ _ _ _ _ us hl=>by obtain ⟨_,_,rfl⟩:=ar2 hl; rfl
 have F7:=zap (x := "sheet_of") (qual := "sheet_of") (st:=zcV) l7 c7 k7
 have b7:=F7.binds (ps:=["facts"]) fun _ _ _ _ _ _ us hl=>by obtain ⟨_,rfl⟩:=ar1 hl; rfl
 have F8:=zap (x := "refuse_unlike_widths") (qual := "refuse_unlike_widths") (st:=zaN) l8 c8 k8
 have b8:=F8.binds (ps:=["facts"]) fun _ _ _ _ _ _ us hl=>by obtain ⟨_,rfl⟩:=ar1 hl; rfl
 have F9:=zap (x := "facts_of") (qual := "facts_of") (st:=zcS) l9 c9 k9
 have b9:=F9.binds (ps:=["entries"]) fun _ _ _ _ _ _ us hl=>by obtain ⟨_,rfl⟩:=ar1 hl; rfl
 have F10:=zap (x := "tallied") (qual := "tallied") (st:=zdn) l10 c10 k10
 have b10:=F10.binds (ps:=["sums","entries"]) fun _ _ _ _ _ _ us hl=>by obtain ⟨_,_,rfl⟩:=ar2 hl; rfl
 have F11:=zap (x := "turns_of") (qual := "turns_of") (st:=zcF) l11 c11 k11
 have b11:=F11.binds (ps:=["entries"]) fun _ _ _ _ _ _ us hl=>by obtain ⟨_,rfl⟩:=ar1 hl; rfl
 have F12:=zap (x := "groups_over_time") (qual := "groups_over_time") (st:=za4) l12 c12 k12
 have b12:=F12.binds (ps:=["columns","sums","sheet"]) fun _ _ _ _ _ _ us hl=>by obtain ⟨_,_,_,rfl⟩:=ar3 hl; rfl
 have F13:=zap (x := "key_broken") (qual := "key_broken") (st:=zb6) l13 c13 k13
 have b13:=F13.binds (ps:=["sheet","columns"]) fun _ _ _ _ _ _ us hl=>by obtain ⟨_,_,rfl⟩:=ar2 hl; rfl
 have F14:=zap (x := "_law_whole") (qual := "_law_whole") (st:=zbW) l14 c14 k14
 have b14:=F14.binds (ps:=["_law_found"]) fun _ _ _ _ _ _ us hl=>by obtain ⟨_,rfl⟩:=ar1 hl; rfl
 have F15:=zap (x := "_law_mixed") (qual := "_law_mixed") (st:=zb2) l15 c15 k15
 have b15:=F15.binds (ps:=["_law_cell","_law_k"]) fun _ _ _ _ _ _ us hl=>by obtain ⟨_,_,rfl⟩:=ar2 hl; rfl
 have F16:=zap (x := "_law_words") (qual := "_law_words") (st:=zb0) l16 c16 k16
 have b16:=F16.binds (ps:=["_law_cell","_law_many"]) fun _ _ _ _ _ _ us hl=>by obtain ⟨_,_,rfl⟩:=ar2 hl; rfl
 have F17:=zap (x := "_law_pool") (qual := "_law_pool") (st:=zco) l17 c17 k17
 have b17:=F17.binds (ps:=["_law_cell"]) fun _ _ _ _ _ _ us hl=>by obtain ⟨_,rfl⟩:=ar1 hl; rfl
 have F18:=zap (x := "_law_lines") (qual := "_law_lines") (st:=zbP) l18 c18 k18
 have b18:=F18.binds (ps:=["_law_rows"]) fun _ _ _ _ _ _ us hl=>by obtain ⟨_,rfl⟩:=ar1 hl; rfl
 have F19:=zap (x := "_law_covers") (qual := "_law_covers") (st:=zbH) l19 c19 k19
 have b19:=F19.binds (ps:=["_law_start","_law_end","_law_moment"]) fun _ _ _ _ _ _ us hl=>by obtain ⟨_,_,_,rfl⟩:=ar3 hl; rfl
 have F20:=zap (x := "_law_bounds") (qual := "_law_bounds") (st:=zbF) l20 c20 k20
 have b20:=F20.binds (ps:=["_law_facts_here"]) fun _ _ _ _ _ _ us hl=>by obtain ⟨_,rfl⟩:=ar1 hl; rfl
 have F21:=zap (x := "_law_pieces") (qual := "_law_pieces") (st:=zbE) l21 c21 k21
 have b21:=F21.binds (ps:=["_law_bounds_here"]) fun _ _ _ _ _ _ us hl=>by obtain ⟨_,rfl⟩:=ar1 hl; rfl
 have F22:=zap (x := "_law_within") (qual := "_law_within") (st:=zbJ) l22 c22 k22
 have b22:=F22.binds (ps:=["_law_piece"]) fun _ _ _ _ _ _ us hl=>by obtain ⟨_,rfl⟩:=ar1 hl; rfl
 have F23:=zap (x := "_law_span") (qual := "_law_span") (st:=zcj) l23 c23 k23
 have b23:=F23.binds (ps:=["_law_parts"]) fun _ _ _ _ _ _ us hl=>by obtain ⟨_,rfl⟩:=ar1 hl; rfl
 have F24:=zap (x := "_law_sheet") (qual := "_law_sheet") (st:=zbU) l24 c24 k24
 have b24:=F24.binds (ps:=["_law_facts_here"]) fun _ _ _ _ _ _ us hl=>by obtain ⟨_,rfl⟩:=ar1 hl; rfl
 have F25:=zap (x := "_law_at") (qual := "_law_at") (st:=zdm) l25 c25 k25
 have b25:=F25.binds (ps:=["_law_facts_here","_law_moment"]) fun _ _ _ _ _ _ us hl=>by obtain ⟨_,_,rfl⟩:=ar2 hl; rfl
 have F26:=zap (x := "_law_facts") (qual := "_law_facts") (st:=zbY) l26 c26 k26
 have b26:=F26.binds (ps:=["_law_sheet_here"]) fun _ _ _ _ _ _ us hl=>by obtain ⟨_,rfl⟩:=ar1 hl; rfl
 have F27:=zap (x := "_law_is_span") (qual := "_law_is_span") (st:=zby) l27 c27 k27
 have b27:=F27.binds (ps:=["_law_span_here"]) fun _ _ _ _ _ _ us hl=>by obtain ⟨_,rfl⟩:=ar1 hl; rfl
 have F28:=zap (x := "_law_is_sheet") (qual := "_law_is_sheet") (st:=zbq) l28 c28 k28
 have b28:=F28.binds (ps:=["_law_found","_law_size"]) fun _ _ _ _ _ _ us hl=>by obtain ⟨_,_,rfl⟩:=ar2 hl; rfl
 have F29:=zap (x := "_law_fact") (qual := "_law_fact") (st:=zcr) l29 c29 k29
 have b29:=F29.binds (ps:=["_law_cell","_law_size","_law_pool_here","_law_first_here"]) fun _ _ _ _ _ _ us hl=>by obtain ⟨_,_,_,_,rfl⟩:=ar4 hl; rfl
 have F30:=zap (x := "_law_first") (qual := "_law_first") (st:=zbX) l30 c30 k30
 have b30:=F30.binds (ps:=["_law_cell"]) fun _ _ _ _ _ _ us hl=>by obtain ⟨_,rfl⟩:=ar1 hl; rfl
 have F31:=zap (x := "_law_made") (qual := "_law_made") (st:=zcs) l31 c31 k31
 have b31:=F31.binds (ps:=["_law_cells","_law_at_here"]) fun _ _ _ _ _ _ us hl=>by obtain ⟨_,_,rfl⟩:=ar2 hl; rfl
 have F32:=zap (x := "_law_due") (qual := "_law_due") (st:=zcJ) l32 c32 k32
 have b32:=F32.binds (ps:=["_law_rows","_law_columns"]) fun _ _ _ _ _ _ us hl=>by obtain ⟨_,_,rfl⟩:=ar2 hl; rfl
 have F33:=zap (x := "_law_right") (qual := "_law_right") (st:=zb5) l33 c33 k33
 have b33:=F33.binds (ps:=["_law_facts_here","_law_columns"]) fun _ _ _ _ _ _ us hl=>by obtain ⟨_,_,rfl⟩:=ar2 hl; rfl
 have F34:=zap (x := "law") (qual := "law") (st:=ze7) l34 c34 k34
 have TL:Tly K C:=⟨⟨cl1,cl2,cl3,cl4⟩,na0,na1,na2,na3⟩
 have G0:=zap (x := "__init__") (qual := "Tally.__init__") (st:=zck) ml0 mc0 mk0
 have gb0:=G0.binds (ps:=["self","sums"]) fun _ _ _ _ _ _ us hl=>by obtain ⟨_,_,rfl⟩:=ar2 hl; rfl
 have G1:=zap (x := "turn") (qual := "Tally.turn") (st:=zfx) ml1 mc1 mk1
 have gb1:=G1.binds (ps:=["self","row","comes"]) fun _ _ _ _ _ _ us hl=>by obtain ⟨_,_,_,rfl⟩:=ar3 hl; rfl
 have G2:=zap (x := "told") (qual := "Tally.told") (st:=zfJ) ml2 mc2 mk2
 have gb2:=G2.binds (ps:=["self"]) fun _ _ _ _ _ _ us hl=>by obtain ⟨_,rfl⟩:=ar1 hl; rfl
 have G3:=zap (x := "cell_at") (qual := "Tally.cell_at") (st:=zcO) ml3 mc3 mk3
 have gb3:=G3.binds (ps:=["self","place"]) fun _ _ _ _ _ _ us hl=>by obtain ⟨_,_,rfl⟩:=ar2 hl; rfl
 have y0:=PySem.W.mg_none_of X G z0
 have y1:=PySem.W.mg_none_of X G z1
 have y2:=PySem.W.mg_none_of X G z2
 have y3:=PySem.W.mg_none_of X G z3
 have y4:=PySem.W.mg_none_of X G z4
 have y5:=PySem.W.mg_none_of X G z5
 have y6:=PySem.W.mg_none_of X G z6
 have y7:=PySem.W.mg_none_of X G z7
 have y8:=PySem.W.mg_none_of X G z8
 have y9:=PySem.W.mg_none_of X G z9
 have y10:=PySem.W.mg_none_of X G z10
 have y11:=PySem.W.mg_none_of X G z11
 have y12:=PySem.W.mg_none_of X G z12
 have y13:=PySem.W.mg_none_of X G z13
 have y14:=PySem.W.mg_none_of X G z14
 have y15:=PySem.W.mg_none_of X G z15
 have y16:=PySem.W.mg_none_of X G z16
 have y17:=PySem.W.mg_none_of X G z17
 have y18:=PySem.W.mg_none_of X G z18
 refine ⟨PySem.W.fnOf "law" "law" (zbD ze7) (zbe ze7) (zad ze7) .none kV34 dc34 pm34 an34 cd34 ct34,fun s v=>.of_eq rfl,fun base _ _=>?_⟩
 have B:Blts mg:=⟨y0,y1,y2,y3,y4,y5,y6,y7,y8,y9,y10,y11,y12,y13,y14,y15,y16,y17,y18⟩
 have MK:MkP l.prog w K mg base 1 C "Tally" ["self","sums"] (zfm C):=⟨⟨_,_,zkQ G0 TL,⟨cm,ma0,mn0,ck⟩,gb0⟩,PySem.W.mg_of X G cC⟩
 have MT:MethP l.prog w K mg base 1 C "turn" ["self","row","comes"] (zdU C):=⟨⟨_,_,zk1 G1 TL B,⟨ma1,mn1,mk1⟩,gb1⟩,TL.cl⟩
 have MC:MethP l.prog w K mg base 1 C "cell_at" ["self","place"] (zdQ C):=⟨⟨_,_,zk4 G3 TL,⟨ma3,mn3,mk3⟩,gb3⟩,TL.cl⟩
 have MD:MethP l.prog w K mg base 2 C "told" ["self"] (zdR C):=⟨⟨_,_,zkx G2 TL B MC,⟨ma2,mn2,mk2⟩,gb2⟩,TL.cl⟩
 have F_start_order:FnP l.prog w K mg base 1 "start_order" ["stretch"] (zg0 K):=⟨_,_,zla F4,PySem.W.mg_of X G a4,k4,b4⟩
 have F_reaches:FnP l.prog w K mg base 1 "reaches" ["stretch","start"] (zgO K):=⟨_,_,zkY F5,PySem.W.mg_of X G a5,k5,b5⟩
 have F_later_end:FnP l.prog w K mg base 1 "later_end" ["one","other"] zg9:=⟨_,_,zkd F6 B.max,PySem.W.mg_of X G a6,k6,b6⟩
 have F_tidied:FnP l.prog w K mg base 4 "tidied" ["stretches"] zdN:=⟨_,_,ziT F3 B.sorted F_start_order F_reaches F_later_end,PySem.W.mg_of X G a3,k3,b3⟩
 have F_is_stretch:FnP l.prog w K mg base 1 "is_stretch" ["start","end"] zbZ:=⟨_,_,zfC F1,PySem.W.mg_of X G a1,k1,b1⟩
 have F_refuse_no_stretch:FnP l.prog w K mg base 2 "refuse_no_stretch" ["start","end"] zaV:=⟨_,_,zcB F2 F_is_stretch,PySem.W.mg_of X G a2,k2,b2⟩
 have F_refuse_unlike_widths:FnP l.prog w K mg base 1 "refuse_unlike_widths" ["facts"] zaM:=⟨_,_,zbT F8 B,PySem.W.mg_of X G a8,k8,b8⟩
 have F_sheet_of:FnP l.prog w K mg base 5 "sheet_of" ["facts"] zb3:=⟨_,_,zgY F7 B F_refuse_no_stretch F_refuse_unlike_widths F_tidied,PySem.W.mg_of X G a7,k7,b7⟩
 have F_facts_of:FnP l.prog w K mg base 1 "facts_of" ["entries"] zcT:=⟨_,_,zg8 F9,PySem.W.mg_of X G a9,k9,b9⟩
 have F_cells_in:FnP l.prog w K mg base 1 "cells_in" ["row","columns"] zcR:=⟨_,_,zg4 F0 B,PySem.W.mg_of X G a0,k0,b0⟩
 have F_turns_of:FnP l.prog w K mg base 1 "turns_of" ["entries"] (zcU l.prog w):=⟨_,_,zgX F11,PySem.W.mg_of X G a11,k11,b11⟩
 have F_tallied:FnP l.prog w K mg base 3 "tallied" ["sums","entries"] zds:=⟨_,_,zh8 F10 B TL F_turns_of MK MT MD,PySem.W.mg_of X G a10,k10,b10⟩
 have F_groups_over_time:FnP l.prog w K mg base 6 "groups_over_time" ["columns","sums","sheet"] za2:=⟨_,_,zcN F12 F_cells_in F_tallied F_sheet_of,PySem.W.mg_of X G a12,k12,b12⟩
 have F_key_broken:FnP l.prog w K mg base 7 "key_broken" ["sheet","columns"] zbR:=⟨_,_,zft F13 F_groups_over_time F_facts_of F_sheet_of,PySem.W.mg_of X G a13,k13,b13⟩
 have F__law_whole:FnP l.prog w K mg base 1 "_law_whole" ["_law_found"] zba:=⟨_,_,zfl F14 B,PySem.W.mg_of X G a14,k14,b14⟩
 have F__law_mixed:FnP l.prog w K mg base 1 "_law_mixed" ["_law_cell","_law_k"] zan:=⟨_,_,zfS F15 B,PySem.W.mg_of X G a15,k15,b15⟩
 have F__law_words:FnP l.prog w K mg base 2 "_law_words" ["_law_cell","_law_many"] zca:=⟨_,_,zfT F16 B F__law_mixed,PySem.W.mg_of X G a16,k16,b16⟩
 have F__law_pool:FnP l.prog w K mg base 2 "_law_pool" ["_law_cell"] zce:=⟨_,_,zgH F17 F__law_mixed,PySem.W.mg_of X G a17,k17,b17⟩
 have F__law_lines:FnP l.prog w K mg base 1 "_law_lines" ["_law_rows"] zbb:=⟨_,_,zfZ F18 B,PySem.W.mg_of X G a18,k18,b18⟩
 have F__law_covers:FnP l.prog w K mg base 1 "_law_covers" ["_law_start","_law_end","_law_moment"] zaP:=⟨_,_,zeP F19,PySem.W.mg_of X G a19,k19,b19⟩
 have F__law_bounds:FnP l.prog w K mg base 1 "_law_bounds" ["_law_facts_here"] zbi:=⟨_,_,zeU F20 B,PySem.W.mg_of X G a20,k20,b20⟩
 have F__law_pieces:FnP l.prog w K mg base 1 "_law_pieces" ["_law_bounds_here"] zbk:=⟨_,_,zeI F21 B,PySem.W.mg_of X G a21,k21,b21⟩
 have F__law_within:FnP l.prog w K mg base 1 "_law_within" ["_law_piece"] zbj:=⟨_,_,zeY F22,PySem.W.mg_of X G a22,k22,b22⟩
 have F__law_span:FnP l.prog w K mg base 1 "_law_span" ["_law_parts"] zcn:=⟨_,_,zgC F23 B,PySem.W.mg_of X G a23,k23,b23⟩
 have F__law_sheet:FnP l.prog w K mg base 2 "_law_sheet" ["_law_facts_here"] zbV:=⟨_,_,zf1 F24 B F__law_pieces F__law_bounds F__law_lines F__law_within F__law_covers F__law_span,PySem.W.mg_of X G a24,k24,b24⟩
 have F__law_at:FnP l.prog w K mg base 2 "_law_at" ["_law_facts_here","_law_moment"] zdq:=⟨_,_,zia F25 F__law_lines F__law_covers,PySem.W.mg_of X G a25,k25,b25⟩
 have F__law_facts:FnP l.prog w K mg base 1 "_law_facts" ["_law_sheet_here"] zbS:=⟨_,_,zfq F26,PySem.W.mg_of X G a26,k26,b26⟩
 have F__law_is_span:FnP l.prog w K mg base 2 "_law_is_span" ["_law_span_here"] zbz:=⟨_,_,zd5 F27 B F__law_whole,PySem.W.mg_of X G a27,k27,b27⟩
 have F__law_is_sheet:FnP l.prog w K mg base 3 "_law_is_sheet" ["_law_found","_law_size"] zbr:=⟨_,_,zdL F28 B F__law_is_span F__law_whole,PySem.W.mg_of X G a28,k28,b28⟩
 have F__law_fact:FnP l.prog w K mg base 2 "_law_fact" ["_law_cell","_law_size","_law_pool_here","_law_first_here"] zbA:=⟨_,_,zgE F29 B F__law_mixed,PySem.W.mg_of X G a29,k29,b29⟩
 have F__law_first:FnP l.prog w K mg base 2 "_law_first" ["_law_cell"] zb4:=⟨_,_,zfU F30 F__law_mixed,PySem.W.mg_of X G a30,k30,b30⟩
 have F__law_made:FnP l.prog w K mg base 3 "_law_made" ["_law_cells","_law_at_here"] zcp:=⟨_,_,zge F31 B F__law_words F__law_pool F__law_first F__law_mixed F__law_fact,PySem.W.mg_of X G a31,k31,b31⟩
 have F__law_due:FnP l.prog w K mg base 2 "_law_due" ["_law_rows","_law_columns"] zcL:=⟨_,_,zgZ F32 B F__law_lines,PySem.W.mg_of X G a32,k32,b32⟩
 have F__law_right:FnP l.prog w K mg base 8 "_law_right" ["_law_facts_here","_law_columns"] zbQ:=⟨_,_,zfO F33 B F__law_sheet F_key_broken F__law_is_sheet F__law_bounds F__law_facts F__law_pieces F__law_within F__law_at F__law_due,PySem.W.mg_of X G a33,k33,b33⟩
 exact zm9 F34 B F__law_made F__law_mixed F__law_right
theorem walk {l:PySem.W.OpenLaw} {q:Program} {loose:List Str} {XP:(Str → Option Value) → Heap → Prop} {YP:World → Heap → Prop} {d:DefRec} {K:Params → PySem.W.Frag} (hn:l.most = some 63) (hdf:d.params.defaults = [])
  (hY:∀ (w:World) (h:Heap),YP w h → (K w.params).In h) (F:∀ (w:World) (mg:Str → Option Value) (fa:Addr) (h:Heap),(K w.params).In h → h.Ns mainGlobals mg → mg d.name = some (.ref fa) →
   ∃ fd:FuncData,(∀ (s:Shared) (u:Value),BindsTo s fd ⟨[u],[]⟩ [("_law_script", u)]) ∧ ∀ base:Heap,(K w.params).In base → base.Ns mainGlobals mg → FnOk l.prog w (K w.params) mg base CX0 9 fa fd ["_law_script"] (zhA (K w.params))) :
  PySem.W.WalkO q loose XP YP l.row.toRowW d [] (fun f vs=>PySem.call f vs) :=
 L2.walk_of (n:=63) (k:=9) (x := "_law_script") (CX:=fun _=>CX0) (sp:=fun w=>zhA (K w.params)) hn (by decide) hdf ⟨rfl,by decide,by decide⟩ hY F (fun _ _ a ns hl _ hS=>⟨a,ns,rfl,hS,hl,fun _=>rfl⟩) fun _ _ _ _ _ z=>z
def c0:Stmt:=top 0
def c1:Stmt:=top 1
def c2:Stmt:=top 2
def c3:Stmt:=top 3
def c4:Stmt:=top 4
def c5:Stmt:=top 5
def c6:Stmt:=top 6
def c7:Stmt:=top 7
def c8:Stmt:=top 8
def c9:Stmt:=top 9
def c10:Stmt:=top 10
def c11:Stmt:=top 11
def c12:Stmt:=top 12
def c13:Stmt:=top 13
def c14:Stmt:=top 14
def c15:Stmt:=top 15
def c16:Stmt:=top 16
def c17:Stmt:=top 17
def c18:Stmt:=top 18
def c19:Stmt:=top 19
def c20:Stmt:=top 20
def c21:Stmt:=top 21
def c22:Stmt:=top 22
def c23:Stmt:=top 23
def c24:Stmt:=top 24
def c25:Stmt:=top 25
def c26:Stmt:=top 26
def c27:Stmt:=top 27
def c28:Stmt:=top 28
def c29:Stmt:=top 29
def c30:Stmt:=top 30
def c31:Stmt:=top 31
def c32:Stmt:=top 32
def c33:Stmt:=top 33
def c34:Stmt:=top 34
def c35:Stmt:=top 35
def c36:Stmt:=top 36
def c37:Stmt:=top 37
def c38:Stmt:=top 38
def c39:Stmt:=top 39
def c40:Stmt:=top 40
def c41:Stmt:=top 41
def c42:Stmt:=top 42
def c43:Stmt:=top 43
def c44:Stmt:=top 44
def c45:Stmt:=top 45
def c46:Stmt:=top 46
def c47:Stmt:=top 47
def c48:Stmt:=top 48
def pq:Program:={ PySem.Challenge.pw_whenrows_k61_keys with main:={ PySem.Challenge.pw_whenrows_k61_keys.main with body:=[c0,c1,c2,c3,c4,c5,c6,c7,c8,c9,c10,c11,c12,c13,c14,c15,c16,c17,c18,c19,c20,c21,c22,c23,c24,c25,c26,c27,c28,c29,c30,c31,c32,c33,c34,c35,c36,c37,c38,c39,c40,c41,c42,c43,c44,c45,c46,c47,c48] } }
def rq:PySem.W.OpenLaw:={ PySem.Challenge.rw_whenrows_k61_keys with prog:=pq }
end Prf
open PySem PySem.W PyProof.Rows
set_option maxRecDepth 100000 in
set_option maxHeartbeats 0 in
theorem Prf.holds_q:Prf.rq.Holds:=by
 w_on; o_law; k_head; (case hw=>w_witness2)
 k_fill
 refine Prf.walk (l:=Prf.rq) rfl rfl (fun w h Y=>PySem.W.kIn_of Y) ?F
 case F =>
  intro w mg fa h KX G hmg
  refine' Prf.all_mk KX G hmg ⟨?a0,?l0,?c0,?k0⟩ ⟨?a1,?l1,?c1,?k1⟩ ⟨?a2,?l2,?c2,?k2⟩ ⟨?a3,?l3,?c3,?k3⟩ ⟨?a4,?l4,?c4,?k4⟩ ⟨?a5,?l5,?c5,?k5⟩ ⟨?a6,?l6,?c6,?k6⟩ ⟨?a7,?l7,?c7,?k7⟩ ⟨?a8,?l8,?c8,?k8⟩ ⟨?a9,?l9,?c9,?k9⟩ ⟨?a10,?l10,?c10,?k10⟩ ⟨?a11,?l11,?c11,?k11⟩ ⟨?a12,?l12,?c12,?k12⟩ ⟨?a13,?l13,?c13,?k13⟩ ⟨?a14,?l14,?c14,?k14⟩ ⟨?a15,?l15,?c15,?k15⟩ ⟨?a16,?l16,?c16,?k16⟩ ⟨?a17,?l17,?c17,?k17⟩ ⟨?a18,?l18,?c18,?k18⟩ ⟨?a19,?l19,?c19,?k19⟩ ⟨?a20,?l20,?c20,?k20⟩ ⟨?a21,?l21,?c21,?k21⟩ ⟨?a22,?l22,?c22,?k22⟩ ⟨?a23,?l23,?c23,?k23⟩ ⟨?a24,?l24,?c24,?k24⟩ ⟨?a25,?l25,?c25,?k25⟩ ⟨?a26,?l26,?c26,?k26⟩ ⟨?a27,?l27,?c27,?k27⟩ ⟨?a28,?l28,?c28,?k28⟩ ⟨?a29,?l29,?c29,?k29⟩ ⟨?a30,?l30,?c30,?k30⟩ ⟨?a31,?l31,?c31,?k31⟩ ⟨?a32,?l32,?c32,?k32⟩ ⟨?a33,?l33,?c33,?k33⟩ ⟨?a34,?l34,?c34,?k34⟩ ?cC ?cl1 ?cl2 ?cl3 ?cl4 ?na0 ?na1 ?na2 ?na3 ?cm ?ck ?ma0 ?ml0 ?mc0 ?mk0 ?mn0 ?ma1 ?ml1 ?mc1 ?mk1 ?mn1 ?ma2 ?ml2 ?mc2 ?mk2 ?mn2 ?ma3 ?ml3 ?mc3 ?mk3 ?mn3 ?z0 ?z1 ?z2 ?z3 ?z4 ?z5 ?z6 ?z7 ?z8 ?z9 ?z10 ?z11 ?z12 ?z13 ?z14 ?z15 ?z16 ?z17 ?z18
  (case a0=>k_is); (case l0=>k_is); (case c0=>k_is); (case k0=>k_is)
  (case a1=>k_is); (case l1=>k_is); (case c1=>k_is); (case k1=>k_is)
  (case a2=>k_is); (case l2=>k_is); (case c2=>k_is); (case k2=>k_is)
  (case a3=>k_is); (case l3=>k_is); (case c3=>k_is); (case k3=>k_is)
  (case a4=>k_is); (case l4=>k_is); (case c4=>k_is); (case k4=>k_is)
  (case a5=>k_is); (case l5=>k_is); (case c5=>k_is); (case k5=>k_is)
  (case a6=>k_is); (case l6=>k_is); (case c6=>k_is); (case k6=>k_is)
  (case a7=>k_is); (case l7=>k_is); (case c7=>k_is); (case k7=>k_is)
  (case a8=>k_is); (case l8=>k_is); (case c8=>k_is); (case k8=>k_is)
  (case a9=>k_is); (case l9=>k_is); (case c9=>k_is); (case k9=>k_is)
  (case a10=>k_is); (case l10=>k_is); (case c10=>k_is); (case k10=>k_is)
  (case a11=>k_is); (case l11=>k_is); (case c11=>k_is); (case k11=>k_is)
  (case a12=>k_is); (case l12=>k_is); (case c12=>k_is); (case k12=>k_is)
  (case a13=>k_is); (case l13=>k_is); (case c13=>k_is); (case k13=>k_is)
  (case a14=>k_is); (case l14=>k_is); (case c14=>k_is); (case k14=>k_is)
  (case a15=>k_is); (case l15=>k_is); (case c15=>k_is); (case k15=>k_is)
  (case a16=>k_is); (case l16=>k_is); (case c16=>k_is); (case k16=>k_is)
  (case a17=>k_is); (case l17=>k_is); (case c17=>k_is); (case k17=>k_is)
  (case a18=>k_is); (case l18=>k_is); (case c18=>k_is); (case k18=>k_is)
  (case a19=>k_is); (case l19=>k_is); (case c19=>k_is); (case k19=>k_is)
  (case a20=>k_is); (case l20=>k_is); (case c20=>k_is); (case k20=>k_is)
  (case a21=>k_is); (case l21=>k_is); (case c21=>k_is); (case k21=>k_is)
  (case a22=>k_is); (case l22=>k_is); (case c22=>k_is); (case k22=>k_is)
  (case a23=>k_is); (case l23=>k_is); (case c23=>k_is); (case k23=>k_is)
  (case a24=>k_is); (case l24=>k_is); (case c24=>k_is); (case k24=>k_is)
  (case a25=>k_is); (case l25=>k_is); (case c25=>k_is); (case k25=>k_is)
  (case a26=>k_is); (case l26=>k_is); (case c26=>k_is); (case k26=>k_is)
  (case a27=>k_is); (case l27=>k_is); (case c27=>k_is); (case k27=>k_is)
  (case a28=>k_is); (case l28=>k_is); (case c28=>k_is); (case k28=>k_is)
  (case a29=>k_is); (case l29=>k_is); (case c29=>k_is); (case k29=>k_is)
  (case a30=>k_is); (case l30=>k_is); (case c30=>k_is); (case k30=>k_is)
  (case a31=>k_is); (case l31=>k_is); (case c31=>k_is); (case k31=>k_is)
  (case a32=>k_is); (case l32=>k_is); (case c32=>k_is); (case k32=>k_is)
  (case a33=>k_is); (case l33=>k_is); (case c33=>k_is); (case k33=>k_is)
  (case a34=>k_is); (case l34=>k_is); (case c34=>k_is); (case k34=>k_is)
  (case cC=>k_is); (case cl1=>k_is); (case cl2=>k_is); (case cl3=>k_is); (case cl4=>k_is); (case cm=>k_is); (case ck=>k_is); (case ma0=>k_is); (case ml0=>k_is); (case mc0=>k_is); (case mk0=>k_is); (case mn0=>k_is); (case ma1=>k_is); (case ml1=>k_is); (case mc1=>k_is); (case mk1=>k_is); (case mn1=>k_is); (case ma2=>k_is); (case ml2=>k_is); (case mc2=>k_is); (case mk2=>k_is); (case mn2=>k_is); (case ma3=>k_is); (case ml3=>k_is); (case mc3=>k_is); (case mk3=>k_is); (case mn3=>k_is)
  (case na0=>unfold L2.NoAttr; k_is); (case na1=>unfold L2.NoAttr; k_is); (case na2=>unfold L2.NoAttr; k_is); (case na3=>unfold L2.NoAttr; k_is)
  (case z0=>k_is); (case z1=>k_is); (case z2=>k_is); (case z3=>k_is); (case z4=>k_is); (case z5=>k_is); (case z6=>k_is); (case z7=>k_is); (case z8=>k_is); (case z9=>k_is); (case z10=>k_is); (case z11=>k_is); (case z12=>k_is); (case z13=>k_is); (case z14=>k_is); (case z15=>k_is); (case z16=>k_is); (case z17=>k_is); (case z18=>k_is)
theorem Prf.same_q:Prf.rq = PySem.Challenge.rw_whenrows_k61_keys:=by kernel_rfl
theorem PySem.Challenge.cw_whenrows_k61_keys_holds : PySem.Challenge.rw_whenrows_k61_keys.Holds :=
 Prf.same_q ▸ Prf.holds_q
