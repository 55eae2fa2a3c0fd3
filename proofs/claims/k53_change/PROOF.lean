import PyProof.Rows.All
import Wide.All
import OpenK.AllK
import Wide.FinOn
import Lean
import PyProof.EqAt
import PyProof.EqKinds
import PyProof.TupleCall
import KE.KSortTup
import PySem.SetTable
import PyProof.SetScanFacts
import PyProof.SetKind
import PyProof.SetRoads
import PyProof.DictKinds
import PyProof.SetNew
import PyProof.Rows.SetFrom
import PyProof.CollectWalk
import PyProof.MeetsSeq2
import PyProof.Walks
import PyProof.DictIter
import PyProof.FactsAll.set_1
import PyProof.FactsAll.set_2
import PyProof.Rows.SortWalk
import PyProof.FactsAll.subtypes_5
import PyProof.AttrMiss
import PyProof.IsiH_list
import PyProof.Rows.SortShell
import KE.KDictOf
import PyProof.ConsumeS
import PyProof.ZipIter
import PyProof.EnumStmt
import PyProof.EnumMake
import PyProof.Rows.EnumRows
import PyProof.Rows.SortShellK
import PyProof.DictWalks
import KE.KDictList
import KE.KLam
import PySem.Challenge.RW_whenrows_k53_change
set_option Elab.async false
set_option linter.all false
set_option maxRecDepth 100000
namespace L2
open PySem PySem.Spec PyProof.Rows
abbrev Key:=Sum Int Str
def zgn:Key → Value → Bool
 | .inl k,v=>Value.isInt k v
 | .inr x,v=>Value.isStrOf x v
def keyH (w:World) : Key → Int
 | .inl k=>hashInt k
 | .inr x=>hashStr w x
theorem zay:∀ {k:Key} {v:Value},zgn k v = true → (∃ i t,k = Sum.inl i ∧ v = Value.int i t) ∨ (∃ x t,k = Sum.inr x ∧ v = Value.str x t)
 | .inl i,v,h=>by
  obtain ⟨t,e⟩:=Value.isInt_shape (k:=i) (v:=v) h
  exact .inl ⟨i,t,rfl,e⟩
 | .inr x,v,h=>by
  obtain ⟨t,e⟩:=Value.isStrOf_shape (x:=x) (v:=v) h
  exact .inr ⟨x,t,rfl,e⟩
theorem zf7 (i:Int) (t:Tok) : zgn (.inl i) (.int i t) = true:=by simp [zgn,Value.isInt]
theorem zig (x:Str) (t:Tok) : zgn (.inr x) (.str x t) = true:=by simp [zgn,Value.isStrOf]
theorem znP (a b:Int) : decide ((Sum.inl a:Key) = Sum.inl b) = (a == b):=by
 by_cases e:a = b
 ·subst e; simp
 ·have h : ¬ (Sum.inl a:Key) = Sum.inl b:=fun q=>e (Sum.inl.inj q)
  rw [decide_eq_false h]
  exact (beq_eq_false_iff_ne.mpr e).symm
theorem znG (a b:Str) : decide ((Sum.inr a:Key) = Sum.inr b) = decide (a = b):=by
 by_cases e:a = b
 ·subst e; simp
 ·have h : ¬ (Sum.inr a:Key) = Sum.inr b:=fun q=>e (Sum.inr.inj q)
  rw [decide_eq_false h,decide_eq_false e]
theorem znT (a:Int) (b:Str) : decide ((Sum.inl a:Key) = Sum.inr b) = false:=decide_eq_false (fun q=>nomatch q)
theorem znU (a:Str) (b:Int) : decide ((Sum.inr a:Key) = Sum.inl b) = false:=decide_eq_false (fun q=>nomatch q)
def zaC (prog:Program) (w:World) : PySem.KeyKind prog w Key where
 is:=zgn
 hash:=keyH w
 inj:=fun v a b ha hb=>by
  rcases zay ha with ⟨i,t,rfl,rfl⟩ | ⟨x,t,rfl,rfl⟩
  ·rcases zay hb with ⟨j,u,rfl,e⟩ | ⟨y,u,rfl,e⟩
   ·injection e with e1 _; rw [e1]
   ·exact nomatch e
  ·rcases zay hb with ⟨j,u,rfl,e⟩ | ⟨y,u,rfl,e⟩
   ·exact nomatch e
   ·injection e with e1 _; rw [e1]
 byValue:=fun k v h=>by
  rcases zay h with ⟨i,t,rfl,rfl⟩ | ⟨x,t,rfl,rfl⟩ <;> rfl
 pyHash:=fun hv h=>by
  rcases zay hv with ⟨i,t,rfl,rfl⟩ | ⟨x,t,rfl,rfl⟩
  ·exact wpAny_pyHash_int h
  ·exact wpAny_pyHash_str h
 eqBool:=fun hu hv h=>by
  rcases zay hu with ⟨i,t,rfl,rfl⟩ | ⟨x,t,rfl,rfl⟩
  ·rcases zay hv with ⟨j,u,rfl,rfl⟩ | ⟨y,u,rfl,rfl⟩
   ·rw [znP] at h; exact wpAny_eqBool_int h
   ·rw [znT] at h; exact SeqAt.EqAt.int_str i t y u _ _ _ _ h
  ·rcases zay hv with ⟨j,u,rfl,rfl⟩ | ⟨y,u,rfl,rfl⟩
   ·rw [znU] at h; exact SeqAt.EqAt.str_int x t j u _ _ _ _ h
   ·rw [znG] at h; exact wpAny_eqBool_str h
 «strs» := fun k x t v h=>by
  rcases zay h with ⟨i,u,rfl,e⟩ | ⟨y,u,rfl,e⟩
  ·exact nomatch e
  ·injection e with e1 _
   subst e1
   cases v <;> rfl
theorem zgd (prog:Program) (w:World) (i:Int) (t:Tok) : (zaC prog w).is (.inl i) (.int i t) = true:=zf7 i t
theorem zgx (prog:Program) (w:World) (x:Str) (t:Tok) : (zaC prog w).is (.inr x) (.str x t) = true:=zig x t
end L2
namespace L2
open PySem PySem.Spec PyProof.Rows
inductive V where
 | non | bl (b:Bool) | int (i:Int) | str (x:Str) | byt (b:Array UInt8) | flt (b:UInt64) | ref (a:Addr) | ty (n:String)
 deriving DecidableEq
def RelV:V → Value → Prop
 | .non,u=>u = Value.none
 | .bl b,u=>u = Value.bool b
 | .int i,u=>∃ t,u = Value.int i t
 | .str x,u=>∃ t,u = Value.str x t
 | .byt b,u=>∃ t,u = Value.bytes b t
 | .flt b,u=>∃ t,u = Value.float b t
 | .ref a,u=>u = Value.ref a
 | .ty n,u=>u = Value.type n
abbrev Vals:List V → List Value → Prop:=Paired RelV
theorem Vals.length {xs:List V} {us:List Value} (r:Vals xs us) : xs.length = us.length:=Paired.length r
theorem Vals.get:∀ {xs:List V} {us:List Value} {i:Nat} {x:V},Vals xs us → xs[i]? = some x → ∃ u,us[i]? = some u ∧ RelV x u
 | _,_,_,_,.nil,e=>by simp at e
 | _,_,0,_,.cons r _,e=>by simp at e; subst e; exact ⟨_,rfl,r⟩
 | _,_,i + 1,x,.cons _ t,e=>by
  obtain ⟨u,h1,h2⟩:=Vals.get (i:=i) (x:=x) t (by simpa using e)
  exact ⟨u,by simpa using h1,h2⟩
theorem Vals.set {x:V} {u:Value} (r:RelV x u) : ∀ {xs:List V} {us:List Value} (i:Nat),Vals xs us → Vals (xs.set i x) (us.set i u)
 | _,_,_,.nil=>.nil
 | _,_,0,.cons _ t=>.cons r t
 | _,_,i + 1,.cons q t=>.cons q (Vals.set r i t)
theorem Vals.append:∀ {xs ys:List V} {us ws:List Value},Vals xs us → Vals ys ws → Vals (xs ++ ys) (us ++ ws)
 | _,_,_,_,.nil,s=>s
 | _,_,_,_,.cons r t,s=>.cons r (Vals.append t s)
theorem Vals.take:∀ {xs:List V} {us:List Value} (n:Nat),Vals xs us → Vals (xs.take n) (us.take n)
 | _,_,0,_=>.nil
 | _,_,_ + 1,.nil=>.nil
 | _,_,n + 1,.cons r t=>.cons r (Vals.take n t)
theorem Vals.drop:∀ {xs:List V} {us:List Value} (n:Nat),Vals xs us → Vals (xs.drop n) (us.drop n)
 | _,_,0,r=>r
 | _,_,_ + 1,.nil=>.nil
 | _,_,n + 1,.cons _ t=>Vals.drop n t
def RelO:Option V → Option Value → Prop
 | some v,some u=>RelV v u
 | none,none=>True
 | _,_=>False
def KV {κ:Type} : List (κ × V) → List (κ × Value) → Prop:=Paired fun (p:κ × V) (q:κ × Value)=>p.1 = q.1 ∧ RelV p.2 q.2
def kV:Key → V
 | .inl i=>.int i
 | .inr x=>.str x
inductive HO where
  | lst (xs:List V)
  | tup (xs:List V)
  | dK (kvs:List (Key × V)) | dT (kvs:List (List Key × V))
  | set (S:Int → Bool) (n:Nat)
  | ins (C dx:Addr) (fs:List (Str × V))
  | own (x:Addr)
  | xd (fs:List (Str × V))
  | met (f x:Addr)
  | rng (lo hi:Int)
  | frz (o:Obj) (u:HO)
  | tbl (ps:Array Value)
  | ext (φ:Heap → Prop)
abbrev Hp:=Addr → Option HO
def upd (H:Hp) (a:Addr) (o:HO) : Hp:=fun b=>if b = a then some o else H b
theorem zab {H:Hp} {a:Addr} {o:HO} : upd H a o a = some o:=by unfold upd; rw [if_pos rfl]
theorem zad {H:Hp} {a b:Addr} {o:HO} (h:b ≠ a) : upd H a o b = H b:=by unfold upd; rw [if_neg h]
theorem zn0 {H:Hp} {a b:Addr} {o u:HO} (h:H a = some o) (h':H b = some u) (d:o ≠ u) : a ≠ b:=by
 intro e; subst e; rw [h] at h'; exact d (Option.some.inj h')
theorem zaf {H:Hp} {a b:Addr} {o:HO} (h:H a = some o) (h':H b = none) : a ≠ b:=by
 intro e; subst e; rw [h] at h'; cases h'
section
variable (P:Program) (w:World)
def ObjOk (H:Hp) (h:Heap) (a:Addr) : HO → Prop
 | .lst xs=>xs.length ≤ sizeLine ∧ ∃ (its:List Value) (n:Nat),Vals xs its ∧ h.get? a = some { cls:=.type "list", data:=.seq its.toArray n }
 | .tup xs=>xs.length ≤ sizeLine ∧ ∃ its:List Value,Vals xs its ∧ IsTup h a its.toArray
 | .dK kvs=>kvs.length ≤ sizeLine ∧ (a == sysModules) = false ∧ ∃ vs,KV kvs vs ∧ h.DictOf (zaC P w) a vs
 | .dT kvs => kvs.length ≤ sizeLine ∧ (a == sysModules) = false ∧ ∃ xs : List (List Key × Addr × Value),
   Paired (fun (p:List Key × V) (q:List Key × Addr × Value)=>p.1 = q.1 ∧ H q.2.1 = some (.tup (p.1.map kV)) ∧ RelV p.2 q.2.2) kvs xs ∧
   ∃ o es ep,h.get? a = some o ∧ o.ExactDict ∧ o.data = .dict es ep ∧ es.toList = xs.map (entryOfKey (tupleKind (zaC P w))) ∧ (xs.map (·.1)).Nodup
 | .set S n=>h.SetOf (intKind P w) a S n
 | .ins C dx fs => H dx = some (.own a) ∧ fs.length ≤ 1000 ∧ dx ≠ a ∧ h.get? a = some (PySem.W.instObj C dx) ∧
   ∃ mA,h.Ns1 dx mA ∧ (∀ f,RelO (fs.lookup f) (mA f)) ∧ PySem.Within mA (fs.map (·.1))
 | .own _=>∃ o,h.get? a = some o
 | .xd fs=>∃ mA,h.Ns1 a mA ∧ ∀ f,RelO (fs.lookup f) (mA f)
 | .rng lo hi=>∃ t u v,h.get? a = some { cls:=.type "range", data:=.fields #[.int lo t,.int hi u,.int 1 v] }
 | .frz o u=>h.get? a = some o ∧ ObjOk H h a u
 | .tbl ps=>h.get? a = some { cls:=.none,data:=.fields ps }
 | .met f x=>h.get? a = some (PySem.W.methodObj (.ref f) (.ref x))
 | .ext φ=>φ h ∧ (∃ o,h.get? a = some o) ∧ ∀ h1 h2:Heap,φ h1 → (∀ o,h1.get? a = some o → h2.get? a = some o) → φ h2
def HOk (H:Hp) (h:Heap) : Prop:=∀ a o,H a = some o → ObjOk P w H h a o
end
section
variable {P:Program} {w:World} {H H':Hp} {h h':Heap} {a:Addr} {o:HO}
theorem ObjOk.lt (x:ObjOk P w H h a o) : a < h.objs.size:=by
 cases o with
 | lst xs=>obtain ⟨_,_,_,_,e⟩:=x; exact Heap.lt_size e
 | tup xs=>obtain ⟨_,_,_,p⟩:=x; exact p.lt
 | dK kvs=>obtain ⟨_,_,_,_,o,_,_,e,_⟩:=x; exact Heap.lt_size e
 | dT kvs=>obtain ⟨_,_,_,_,o,_,_,e,_⟩:=x; exact Heap.lt_size e
 | set S n=>obtain ⟨o,_,_,_,e,_⟩:=x; exact Heap.lt_size e
 | ins C dx fs=>obtain ⟨_,_,_,e,_⟩:=x; exact Heap.lt_size e
 | own y=>obtain ⟨_,e⟩:=x; exact Heap.lt_size e
 | xd fs=>obtain ⟨_,⟨_,_,_,e,_⟩,_⟩:=x; exact Heap.lt_size e
 | rng lo hi=>obtain ⟨_,_,_,e⟩:=x; exact Heap.lt_size e
 | frz ob u=>obtain ⟨e,_⟩:=x; exact Heap.lt_size e
 | tbl ps=>exact Heap.lt_size (show h.get? a = some _ from x)
 | met f y=>exact Heap.lt_size (show h.get? a = some _ from x)
 | ext φ=>obtain ⟨_,⟨_,e⟩,_⟩:=x; exact Heap.lt_size e
theorem Paired.mapP {α β:Type} {F G:α → β → Prop} : ∀ {l₁:List α} {l₂:List β},Paired F l₁ l₂ → (∀ a b,F a b → G a b) → Paired G l₁ l₂
 | _,_,.nil,_=>.nil
 | _,_,.cons r t,f=>.cons (f _ _ r) (Paired.mapP t f)
theorem ObjOk.stay (x:ObjOk P w H h a o) (k:∀ b u,(b = a ∨ H b = some (.own a)) → h.get? b = some u → h'.get? b = some u)
  (ho:∀ b,H b = some (.own a) → H' b = some (.own a)) (ht:∀ b xs,H b = some (.tup xs) → H' b = some (.tup xs)) : ObjOk P w H' h' a o:=by
 induction o with
 | lst xs=>obtain ⟨z,its,n,r,e⟩:=x; exact ⟨z,its,n,r,k _ _ (.inl rfl) e⟩
 | tup xs=>obtain ⟨z,its,r,ob,e,c⟩:=x; exact ⟨z,its,r,ob,k _ _ (.inl rfl) e,c⟩
 | dK kvs=>obtain ⟨z,y,vs,r,ob,es,ep,e,c⟩:=x; exact ⟨z,y,vs,r,ob,es,ep,k _ _ (.inl rfl) e,c⟩
 | dT kvs =>
  obtain ⟨z,y,xs,r,ob,es,ep,e,c⟩:=x
  exact ⟨z,y,xs,Paired.mapP r fun p q z=>⟨z.1,ht _ _ z.2.1,z.2.2⟩,ob,es,ep,k _ _ (.inl rfl) e,c⟩
 | set S n=>obtain ⟨ob,es,ep,t,e,c⟩:=x; exact ⟨ob,es,ep,t,k _ _ (.inl rfl) e,c⟩
 | ins C dx fs =>
  obtain ⟨d,z,ne,e,mA,⟨od,es,ep,e2,c⟩,r⟩:=x
  exact ⟨ho _ d,z,ne,k _ _ (.inl rfl) e,mA,⟨od,es,ep,k _ _ (.inr d) e2,c⟩,r⟩
 | own y=>obtain ⟨ob,e⟩:=x; exact ⟨ob,k _ _ (.inl rfl) e⟩
 | xd fs=>obtain ⟨mA,⟨od,es,ep,e,c⟩,r⟩:=x; exact ⟨mA,⟨od,es,ep,k _ _ (.inl rfl) e,c⟩,r⟩
 | rng lo hi=>obtain ⟨t,u,v,e⟩:=x; exact ⟨t,u,v,k _ _ (.inl rfl) e⟩
 | frz ob u ih=>obtain ⟨e,q⟩:=x; exact ⟨k _ _ (.inl rfl) e,ih q⟩
 | tbl ps =>
  have e:h.get? a = some { cls:=.none,data:=.fields ps }:=x
  show h'.get? a = some { cls:=.none,data:=.fields ps }
  exact k a _ (.inl rfl) e
 | met f y =>
  have e:h.get? a = some (PySem.W.methodObj (.ref f) (.ref y)):=x
  show h'.get? a = some (PySem.W.methodObj (.ref f) (.ref y))
  exact k a _ (.inl rfl) e
 | ext φ=>obtain ⟨p,⟨o,e⟩,st⟩:=x; exact ⟨st _ _ p fun o q=>k _ _ (.inl rfl) q,⟨o,k _ _ (.inl rfl) e⟩,st⟩
theorem HOk.lt (x:HOk P w H h) (e:H a = some o) : a < h.objs.size:=(x a o e).lt
theorem HOk.fresh (x:HOk P w H h) (e:h.objs.size ≤ a) : H a = none:=by
 cases q:H a with
 | none=>rfl
 | some u=>exact absurd (Nat.lt_of_lt_of_le (x.lt q) e) (Nat.lt_irrefl _)
theorem HOk.kept (x:HOk P w H h) (k:∀ b u,h.get? b = some u → h'.get? b = some u) : HOk P w H h':=fun a o e =>
 (x a o e).stay (fun b u _ q=>k b u q) (fun _ q=>q) fun _ _ q=>q
theorem HOk.laid (x:HOk P w H h) (k:∀ b u,h.get? b = some u → h'.get? b = some u) (hp:h.objs.size ≤ a) (new:ObjOk P w (upd H a o) h' a o) : HOk P w (upd H a o) h':=fun b u e=>by
 have hn:=x.fresh hp
 by_cases hb:b = a
 ·subst hb; rw [zab] at e; cases e; exact new
 ·rw [zad hb] at e
  exact (x b u e).stay (fun c v _ q=>k c v q) (fun c q=>by rw [zad (zaf q hn)]; exact q) fun c xs q=>by rw [zad (zaf q hn)]; exact q
end
def Rd (H:Hp) (a:Addr) (u:HO) : Prop:=H a = some u ∨ ∃ o,H a = some (.frz o u)
theorem Rd.ok {P:Program} {w:World} {H:Hp} {h:Heap} {a:Addr} {u:HO} (r:Rd H a u) (x:HOk P w H h) : ObjOk P w H h a u:=by
 rcases r with r | ⟨o,r⟩
 ·exact x a u r
 ·obtain ⟨_,q⟩:=x a _ r
  exact q
def Mut:Option HO → Prop
 | some (.lst _)=>True
 | some (.dK _)=>True
 | some (.dT _)=>True
 | some (.set _ _)=>True
 | some (.ins _ _ _)=>True
 | some (.ext _)=>True
 | _=>False
section
variable {P:Program} {w:World} {H:Hp} {h h':Heap} {x e:Addr} {o':HO}
theorem HOk.write (ok:HOk P w H h) (mu:Mut (H x)) (he:e = x ∨ H e = some (.own x)) (k:∀ b u,b ≠ e → h.get? b = some u → h'.get? b = some u) (heo:∃ u,h'.get? e = some u)
  (new:ObjOk P w (upd H x o') h' x o') : HOk P w (upd H x o') h':=fun b u q=>by
 have nown:∀ c y,H c = some (.own y) → c ≠ x:=fun c y r z=>by subst z; rw [r] at mu; exact mu
 have ntup:∀ c xs,H c = some (.tup xs) → c ≠ x:=fun c xs r z=>by subst z; rw [r] at mu; exact mu
 by_cases hb:b = x
 ·subst hb; rw [zab] at q; cases q; exact new
 ·rw [zad hb] at q
  by_cases hbe:b = e
  ·have q':H b = some (.own x):=by
    rcases he with z | z
    ·exact absurd (hbe.trans z) hb
    ·rw [hbe]; exact z
   rw [q] at q'; cases q'
   obtain ⟨v,hv⟩:=heo
   exact ⟨v,by rw [hbe]; exact hv⟩
  ·refine (ok b u q).stay (fun c v hc r=>k c v ?_ r) (fun c r=>by rw [zad (nown c b r)]; exact r) fun c xs r=>by rw [zad (ntup c xs r)]; exact r
   rcases hc with rfl | hc
   ·exact hbe
   ·rintro rfl
    rcases he with z | z
    ·exact nown c b hc z
    ·rw [hc] at z; cases z; exact hb rfl
end
structure Un (fs ex:List Addr) (H H':Hp) (h h':Heap) : Prop where
 keep:∀ b o,h.get? b = some o → H b = none → b ∉ fs → b ∉ ex → h'.get? b = some o
 slot:∀ b o,h.get? b = some o → H b = none → b ∈ fs → b ∉ ex → ∃ sl,h'.get? b = some { o with slots:=sl }
 free:∀ b o,h.get? b = some o → H b = none → b ∉ ex → H' b = none
 there:∀ b o,h.get? b = some o → b ∉ ex → ∃ o',h'.get? b = some o'
 tups:∀ b xs,H b = some (.tup xs) → H' b = some (.tup xs)
 frzs:∀ b o u,H b = some (.frz o u) → H' b = some (.frz o u)
 tbls:∀ b ps,H b = some (.tbl ps) → ∃ more,H' b = some (.tbl (ps ++ more))
section
variable {fs fs' ex ex':List Addr} {H H1 H2:Hp} {h h1 h2 h':Heap} {a x e:Addr} {o:HO}
theorem Un.any (u:Un fs ex H H1 h h1) {b:Addr} {ob:Obj} (q:h.get? b = some ob) (n:H b = none) (hx:b ∉ ex) : ∃ sl,h1.get? b = some { ob with slots:=sl }:=by
 by_cases hb:b ∈ fs
 ·exact u.slot b ob q n hb hx
 ·exact ⟨ob.slots,u.keep b ob q n hb hx⟩
theorem Un.trans (a:Un fs ex H H1 h h1) (b:Un fs ex H1 H2 h1 h2) : Un fs ex H H2 h h2 where
 keep:=fun c ob q n hc hx=>b.keep c ob (a.keep c ob q n hc hx) (a.free c ob q n hx) hc hx
 slot:=fun c ob q n hc hx=>by
  obtain ⟨sl,e1⟩:=a.slot c ob q n hc hx
  obtain ⟨sl',e2⟩:=b.slot c _ e1 (a.free c ob q n hx) hc hx
  exact ⟨sl',e2⟩
 free:=fun c ob q n hx=>by
  obtain ⟨o',e1⟩:=a.there c ob q hx
  exact b.free c o' e1 (a.free c ob q n hx) hx
 there:=fun c ob q hx=>by
  obtain ⟨o',e1⟩:=a.there c ob q hx
  exact b.there c o' e1 hx
 tups:=fun c xs q=>b.tups c xs (a.tups c xs q)
 frzs:=fun c ob xs q=>b.frzs c ob xs (a.frzs c ob xs q)
 tbls:=fun c ps q=>by
  obtain ⟨m1,e1⟩:=a.tbls c ps q
  obtain ⟨m2,e2⟩:=b.tbls c _ e1
  exact ⟨m1 ++ m2,by rw [e2,Array.append_assoc]⟩
theorem Un.kept (k:∀ b u,h.get? b = some u → h'.get? b = some u) : Un fs ex H H h h' :=
 ⟨fun b ob q _ _ _=>k b ob q,fun b ob q _ _ _=>⟨ob.slots,k b ob q⟩,fun _ _ _ n _=>n,fun b ob q _=>⟨ob,k b ob q⟩,fun _ _ q=>q,fun _ _ _ q=>q,fun _ ps q=>⟨#[],by rw [q]; simp⟩⟩
theorem Un.refl:Un fs ex H H h h:=Un.kept fun _ _ q=>q
theorem Un.laid (k:∀ b u,h.get? b = some u → h'.get? b = some u) (hp:h.objs.size ≤ a) (hn:H a = none) : Un fs ex H (upd H a o) h h' where
 keep:=fun b u q _ _ _=>k b u q
 slot:=fun b u q _ _ _=>⟨u.slots,k b u q⟩
 free:=fun b u q n _=>by rw [zad (Nat.ne_of_lt (Nat.lt_of_lt_of_le (Heap.lt_size q) hp))]; exact n
 there:=fun b u q _=>⟨u,k b u q⟩
 tups:=fun b xs q=>by rw [zad (zaf q hn)]; exact q
 frzs:=fun b u xs q=>by rw [zad (zaf q hn)]; exact q
 tbls:=fun b ps q=>⟨#[],by rw [zad (zaf q hn),q]; simp⟩
theorem Un.write (mu:Mut (H x)) (he:e = x ∨ H e = some (.own x)) (k:∀ b u,b ≠ e → h.get? b = some u → h'.get? b = some u) (heo:∃ u,h'.get? e = some u) : Un fs ex H (upd H x o) h h':=by
 have hx:∀ b,H b = none → b ≠ x:=fun b n z=>by subst z; rw [n] at mu; exact mu
 have hb:∀ b,H b = none → b ≠ e:=fun b n z=>by
  subst z
  rcases he with r | r
  ·exact hx b n r
  ·rw [n] at r; cases r
 have hm:∀ b u,H b = some u → ¬ Mut (some u) → b ≠ x:=fun b u q nm z=>by subst z; rw [q] at mu; exact nm mu
 refine ⟨fun b u q n _ _=>k b u (hb b n) q,fun b u q n _ _=>⟨u.slots,k b u (hb b n) q⟩,fun b u q n _=>by rw [zad (hx b n)]; exact n,fun b u q _=>?_,
  fun b xs q=>by rw [zad (hm b _ q fun z=>z)]; exact q,fun b u xs q=>by rw [zad (hm b _ q fun z=>z)]; exact q,fun b ps q=>⟨#[],by rw [zad (hm b _ q fun z=>z),q]; simp⟩⟩
 by_cases hbe:b = e
 ·subst hbe; exact heo
 ·exact ⟨u,k b u hbe q⟩
end
def trk (h:Heap) (H:Hp) : List Addr:=(List.range h.objs.size).filter fun a=>(H a).isSome
def hidT (h:Heap) (H:Hp) : Heap:=PySem.W.hideAll h (trk h H)
theorem zjs (h:Heap) (H:Hp) : (hidT h H).objs.size = h.objs.size:=PySem.W.hideAll_size _ _
theorem zj3 {h:Heap} {H:Hp} {b:Addr} {o:Obj} (e:h.get? b = some o) (n:H b = none) : (hidT h H).get? b = some o :=
 PySem.W.hideAll_get _ e fun hm=>by
  have q:(H b).isSome = true:=(List.mem_filter.mp hm).2
  rw [n] at q; simp at q
theorem zmE {h:Heap} {H:Hp} {b:Addr} {o:Obj} (e:(hidT h H).get? b = some o) : h.get? b = some o ∧ H b = none:=by
 have e':h.get? b = some o:=PySem.W.of_hideAll (trk h H) e
 refine ⟨e',?_⟩
 cases q:H b with
 | none=>rfl
 | some x =>
  have hm:b ∈ trk h H:=List.mem_filter.mpr ⟨List.mem_range.mpr (Heap.lt_size e'),by simp [q]⟩
  have z:(hidT h H).get? b = none:=PySem.W.hideAll_none (trk h H) hm
  rw [z] at e; cases e
def zl2 (g h:Heap) (L:Addr) : List (Addr × Obj):=(List.range h.objs.size).filterMap fun a=>if a = L ∨ (g.get? a).isSome = true then none else (h.get? a).map fun o=>(a,o)
def rest (g h:Heap) (L d:Addr) : List (Addr × Obj):=(zl2 g h L).filter fun p=>decide (p.1 ≠ d)
end L2
namespace L2
open PySem PySem.Spec PyProof.Rows
structure Mod (K:PySem.W.Frag) (mg:Str → Option Value) (base:Heap) : Prop where
 kin:K.In base
 glob:base.Ns mainGlobals mg
 blt:∃ mb,base.Ns builtinsNs mb ∧ ∀ x:Str,x ≠ "__name__" → mb x = bootBuiltins x
 nolimit:base.NoLimit
structure Cx where
 prog:Program
 w:World
 K:PySem.W.Frag
 mg:Str → Option Value
 base:Heap
 A:Around
 N:List Str
 s₀:Shared
 H₀:Hp
 env:Env
 outer:List Env
 stack:List Env
 ex:List Addr
 fn:Str → Bool
 calm:Bool
 pn:List (Addr × Obj)
 xe:Value → Shared → Prop
def frs (l:List Env) : List Addr:=l.filterMap (·.frame)
abbrev Cx.fs (X:Cx) : List Addr:=frs X.outer
def Vis (sc:Scope) (x:Str) : Prop:=sc.names.lookup x = some .local ∨ sc.names.lookup x = some .cell ∨ sc.names.lookup x = some .free
def Loc (sc:Scope) (x:Str) : Prop:=sc.names.lookup x = some .local ∨ sc.names.lookup x = some .cell
def Look (env:Env) (h:Heap) (m:Str → Option Value) (x:Str) (u:Value) : Prop :=
 (env.kindOf x = some .local ∧ m x = some u) ∨ ((env.kindOf x = some .cell ∨ env.kindOf x = some .free) ∧ ∃ c,env.cells.lookup x = some c ∧ h.IsCell c (some u))
structure Cx.Ok (X:Cx) : Prop where
 mod:Mod X.K X.mg X.base
 kind:X.env.scope.kind = .function
 glob:X.env.globals = mainGlobals
 blt:X.env.builtins = builtinsNs
 above:X.s₀.heap.objs.size ≤ X.env.locals
 inj:∀ x y c,X.env.cells.lookup x = some c → X.env.cells.lookup y = some c → x = y
 has:∀ x,(X.env.kindOf x = some .cell ∨ X.env.kindOf x = some .free) → ∃ c,X.env.cells.lookup x = some c
 cab:∀ x c,X.fn x = true → X.env.cells.lookup x = some c → X.s₀.heap.objs.size ≤ c
 hd:X.calm = true → X.A.handled = none
 frames:X.A.frames = some X.stack
 stk:X.stack = X.outer ∨ (X.stack = X.env :: X.outer ∧ X.env.frame = some X.env.locals)
 exf:∀ b ∈ X.ex,b ≠ X.env.locals ∧ ∀ x c,X.env.cells.lookup x = some c → c ≠ b
 bs:∀ b o,X.base.get? b = some o → X.s₀.heap.get? b = some o ∧ X.H₀ b = none
 bsz:X.base.objs.size ≤ X.s₀.heap.objs.size
 noex:∀ b o,X.base.get? b = some o → b ∉ X.ex
 exfs:∀ b ∈ X.ex,b ∉ X.fs
 funs:X.s₀.heap.FunFrames X.base X.outer
 frf:∀ b ∈ X.fs,X.H₀ b = none
structure Inv (X:Cx) (pins:List (Addr × Obj)) (σ:List (Option V)) (H:Hp) (s:Shared) : Prop where
 ok:X.Ok
 os:s.os = X.s₀.os
 bare:AllBare s.gens
 base:Un X.fs X.ex X.H₀ H X.s₀.heap s.heap
 loc:∃ m,s.heap.Ns X.env.locals m ∧ ∀ (i:Nat) (x:Str) (v:V),X.N[i]? = some x → σ[i]? = some (some v) → Vis X.env.scope x → ∃ u,RelV v u ∧ Look X.env s.heap m x u
 cell:∀ x c,X.env.cells.lookup x = some c → ∃ v,s.heap.IsCell c v
 free:H X.env.locals = none
 freeC:∀ x c,X.env.cells.lookup x = some c → H c = none
 pin:∀ p ∈ X.pn ++ pins,s.heap.get? p.1 = some p.2 ∧ H p.1 = none ∧ p.1 ≠ X.env.locals ∧ p.1 ∉ X.fs ∧ ∀ v,p.2.data ≠ .cell v
 hok:HOk X.prog X.w H s.heap
 len:σ.length = X.N.length
section
variable {X:Cx} {pins:List (Addr × Obj)} {σ:List (Option V)} {H H':Hp} {s:Shared} {h':Heap}
theorem Cx.Ok.nofr (ok:X.Ok) {b:Addr} {o:Obj} (e:X.base.get? b = some o) : b ∉ X.fs:=fun hb=>by
 have:=(ok.funs.mem hb).1
 rw [e] at this; cases this
theorem Inv.bs (I:Inv X pins σ H s) : ∀ b o,X.base.get? b = some o → s.heap.get? b = some o ∧ H b = none:=fun b o e =>
 ⟨I.base.keep b o (I.ok.bs b o e).1 (I.ok.bs b o e).2 (I.ok.nofr e) (I.ok.noex b o e),I.base.free b o (I.ok.bs b o e).1 (I.ok.bs b o e).2 (I.ok.noex b o e)⟩
theorem Inv.bk (I:Inv X pins σ H s) : ∀ b o,X.base.get? b = some o → s.heap.get? b = some o:=fun b o e=>(I.bs b o e).1
theorem Inv.mod (I:Inv X pins σ H s) : Mod X.K X.mg X.base:=I.ok.mod
theorem Inv.kIn (I:Inv X pins σ H s) : X.K.In s.heap:=I.ok.mod.kin.keeps I.bk
theorem Inv.nolimit (I:Inv X pins σ H s) : s.heap.NoLimit:=I.ok.mod.nolimit.keeps I.bk
theorem Inv.fr (I:Inv X pins σ H s) : ∃ m,Fr X.base X.env.locals s.heap m :=
 let ⟨m,hn,_⟩:=I.loc
 ⟨m,hn,I.bk,Nat.le_trans I.ok.bsz I.ok.above⟩
theorem Inv.lt (I:Inv X pins σ H s) : X.env.locals < s.heap.objs.size:=let ⟨_,hn,_⟩:=I.loc; hn.lt
theorem Inv.sz (I:Inv X pins σ H s) : X.s₀.heap.objs.size ≤ s.heap.objs.size:=Nat.le_trans I.ok.above (Nat.le_of_lt I.lt)
theorem Inv.nofs (I:Inv X pins σ H s) {a:Addr} (h:s.heap.objs.size ≤ a) : a ∉ X.fs:=fun hb=>by
 obtain ⟨_,o,ho,_⟩:=I.ok.funs.mem hb
 exact absurd (Nat.lt_of_lt_of_le (Heap.lt_size ho) (Nat.le_trans I.sz h)) (Nat.lt_irrefl _)
theorem Inv.cne (I:Inv X pins σ H s) : ∀ x c,X.env.cells.lookup x = some c → c ≠ X.env.locals:=fun x c e z=>by
 obtain ⟨v,o,ho,hd⟩:=I.cell x c e
 obtain ⟨m,⟨o',es,ep,ho',hd',_⟩,_⟩:=I.loc
 rw [z,ho'] at ho; cases ho; rw [hd'] at hd; cases hd
theorem Inv.funs (I:Inv X pins σ H s) : s.heap.FunFrames X.base X.outer:=by
 have all:∀ (l:List Env),(∀ b ∈ frs l,b ∈ X.fs) → X.s₀.heap.FunFrames X.base l → s.heap.FunFrames X.base l:=by
  intro l
  induction l with
  | nil=>intro _ _; trivial
  | cons env r ih =>
   intro hs hl
   obtain ⟨hk,⟨L,o,hf,hn,ho,hd⟩,hr⟩:=hl
   have hL:L ∈ X.fs:=hs L (by unfold frs; rw [List.filterMap_cons,hf]; exact List.mem_cons_self)
   obtain ⟨sl,e⟩:=I.base.slot L o ho (I.ok.frf L hL) hL fun z=>I.ok.exfs L z hL
   exact ⟨hk,⟨L,_,hf,hn,e,hd⟩,ih (fun b hb=>hs b (by unfold frs; rw [List.filterMap_cons,hf]; exact List.mem_cons_of_mem _ hb)) hr⟩
 exact all X.outer (fun _ hb=>hb) I.ok.funs
theorem Inv.stack (I:Inv X pins σ H s) : s.heap.FunFrames X.base X.stack:=by
 rcases I.ok.stk with e | ⟨e,hf⟩
 ·rw [e]; exact I.funs
 ·rw [e]
  obtain ⟨m,hn,_⟩:=I.loc
  refine .cons (by rw [I.ok.kind]; decide) hf hn ?_ I.funs
  exact Heap.get?_none_of_le (Nat.le_trans I.ok.bsz I.ok.above)
theorem Inv.stkSub (I:Inv X pins σ H s) : ∀ b ∈ frs X.stack,b ∈ X.env.locals :: X.fs:=fun b hb=>by
 rcases I.ok.stk with e | ⟨e,hf⟩
 ·rw [e] at hb; exact List.mem_cons_of_mem _ hb
 ·rw [e] at hb
  unfold frs at hb
  rw [List.filterMap_cons,hf] at hb
  exact hb
theorem Inv.stkFree (I:Inv X pins σ H s) : ∀ b ∈ frs X.stack,H b = none:=fun b hb=>by
 rcases List.mem_cons.mp (I.stkSub b hb) with e | hb
 ·rw [e]; exact I.free
 ·obtain ⟨_,o,ho,_⟩:=I.ok.funs.mem hb
  exact I.base.free b o ho (I.ok.frf b hb) fun z=>I.ok.exfs b z hb
theorem Inv.step {g':Array GenState} {t':Nat} {d':Drawn} {ch:List Addr} (I:Inv X pins σ H s)
  (hch:∀ b ∈ ch,(b ∈ X.ex ∨ X.s₀.heap.objs.size ≤ b) ∧ b ≠ X.env.locals ∧ (∀ x c,X.env.cells.lookup x = some c → c ≠ b) ∧ ∀ p ∈ X.pn ++ pins,p.1 ≠ b)
  (keep:∀ b o,b ≠ X.env.locals → b ∉ X.fs → b ∉ ch → s.heap.get? b = some o → H b = none → h'.get? b = some o)
  (slot:∀ b o,b ≠ X.env.locals → b ∈ X.fs → b ∉ ch → s.heap.get? b = some o → H b = none → ∃ sl,h'.get? b = some { o with slots:=sl }) (free:∀ b o,b ∉ ch → s.heap.get? b = some o → H b = none → H' b = none)
  (there:∀ b o,b ∉ ch → s.heap.get? b = some o → ∃ o',h'.get? b = some o')
  (tups:∀ b xs,H b = some (.tup xs) → H' b = some (.tup xs)) (frzs:∀ b o u,H b = some (.frz o u) → H' b = some (.frz o u)) (tbls:∀ b ps,H b = some (.tbl ps) → ∃ more,H' b = some (.tbl (ps ++ more)))
  (ns:∀ m,s.heap.Ns X.env.locals m → h'.Ns X.env.locals m) (hok:HOk X.prog X.w H' h') (hg:AllBare g') :
  Inv X pins σ H' { s with heap:=h',gens:=g',drawn:=d',toks:=t' }:=by
 have neL:∀ b o,X.s₀.heap.get? b = some o → b ≠ X.env.locals:=fun b o e=>Nat.ne_of_lt (Nat.lt_of_lt_of_le (Heap.lt_size e) I.ok.above)
 have neC:∀ b o,X.s₀.heap.get? b = some o → b ∉ X.ex → b ∉ ch:=fun b o e hx hb=>by
  rcases (hch b hb).1 with z | z
  ·exact hx z
  ·exact absurd (Nat.lt_of_lt_of_le (Heap.lt_size e) z) (Nat.lt_irrefl _)
 have cellK:∀ x c,X.env.cells.lookup x = some c → ∀ v,s.heap.IsCell c v → h'.IsCell c v:=fun x c e v ⟨o,ho,hd⟩=>by
  have nch:c ∉ ch:=fun z=>(hch c z).2.2.1 x c e rfl
  by_cases hc:c ∈ X.fs
  ·obtain ⟨sl,q⟩:=slot c o (I.cne x c e) hc nch ho (I.freeC x c e)
   exact ⟨_,q,hd⟩
  ·exact ⟨o,keep c o (I.cne x c e) hc nch ho (I.freeC x c e),hd⟩
 refine ⟨I.ok,I.os,hg,⟨fun b o e n hb hx=>?_,fun b o e n hb hx=>?_,fun b o e n hx=>?_,fun b o e hx=>?_,fun b xs e=>tups b xs (I.base.tups b xs e),fun b o xs e=>frzs b o xs (I.base.frzs b o xs e),fun b ps e=>?_⟩,?_,fun x c e=>?_,?_,fun x c e=>?_,fun p hp=>?_,hok,I.len⟩
 ·exact keep b o (neL b o e) hb (neC b o e hx) (I.base.keep b o e n hb hx) (I.base.free b o e n hx)
 ·obtain ⟨sl,e1⟩:=I.base.slot b o e n hb hx
  obtain ⟨sl',e2⟩:=slot b _ (neL b o e) hb (neC b o e hx) e1 (I.base.free b o e n hx)
  exact ⟨sl',e2⟩
 ·obtain ⟨o',e1⟩:=I.base.there b o e hx
  exact free b o' (neC b o e hx) e1 (I.base.free b o e n hx)
 ·obtain ⟨o',e1⟩:=I.base.there b o e hx
  exact there b o' (neC b o e hx) e1
 ·obtain ⟨m1,e1⟩:=I.base.tbls b ps e
  obtain ⟨m2,e2⟩:=tbls b _ e1
  exact ⟨m1 ++ m2,by rw [e2,Array.append_assoc]⟩
 ·obtain ⟨m,hn,hl⟩:=I.loc
  refine ⟨m,ns m hn,fun i x v e1 e2 e3=>?_⟩
  obtain ⟨u,r,l⟩:=hl i x v e1 e2 e3
  refine ⟨u,r,?_⟩
  rcases l with l | ⟨k,c,e,z⟩
  ·exact .inl l
  ·exact .inr ⟨k,c,e,cellK x c e _ z⟩
 ·obtain ⟨v,z⟩:=I.cell x c e
  exact ⟨v,cellK x c e v z⟩
 ·obtain ⟨m,⟨o,_,_,ho,_⟩,_⟩:=I.loc
  exact free _ o (fun z=>(hch _ z).2.1 rfl) ho I.free
 ·obtain ⟨v,o,ho,hd⟩:=I.cell x c e
  exact free c o (fun z=>(hch c z).2.2.1 x c e rfl) ho (I.freeC x c e)
 ·obtain ⟨e,n,ne,nf,d⟩:=I.pin p hp
  have nch:p.1 ∉ ch:=fun z=>(hch p.1 z).2.2.2 p hp rfl
  exact ⟨keep p.1 p.2 ne nf nch e n,free p.1 p.2 nch e n,ne,nf,d⟩
theorem Inv.un {t':Nat} (I:Inv X pins σ H s) (u:Un X.fs [] H H' s.heap h') (hok:HOk X.prog X.w H' h') : Inv X pins σ H' { s with heap:=h',toks:=t' }:=by
 obtain ⟨m,⟨o,es,ep,ho,r⟩,_⟩:=id I.loc
 obtain ⟨sl,hL⟩:=u.any ho I.free (by simp)
 exact I.step (g':=s.gens) (d':=s.drawn) (ch:=[]) (fun _ z=>nomatch z) (fun b o _ hb _ e n=>u.keep b o e n hb (by simp)) (fun b o _ hb _ e n=>u.slot b o e n hb (by simp)) (fun b o _ e n=>u.free b o e n (by simp)) (fun b o _ e=>u.there b o e (by simp)) u.tups u.frzs u.tbls (fun m' hm=>by
  obtain ⟨o',es',ep',ho',r'⟩:=hm
  rw [ho] at ho'; cases ho'
  exact ⟨_,es',ep',hL,r'⟩) hok I.bare
theorem Inv.call {g':Array GenState} {t':Nat} {d':Drawn} {ch:List Addr} (I:Inv X pins σ H s) (u:Un (frs X.stack) ch H H' s.heap h') (hok:HOk X.prog X.w H' h') (hg:AllBare g')
  (hch:∀ b ∈ ch,(b ∈ X.ex ∨ X.s₀.heap.objs.size ≤ b) ∧ b ≠ X.env.locals ∧ (∀ x c,X.env.cells.lookup x = some c → c ≠ b) ∧ ∀ p ∈ X.pn ++ pins,p.1 ≠ b) :
  Inv X pins σ H' { s with heap:=h',gens:=g',drawn:=d',toks:=t' }:=by
 obtain ⟨m,⟨o,es,ep,ho,r⟩,_⟩:=id I.loc
 obtain ⟨sl,hL⟩:=u.any ho I.free fun z=>(hch _ z).2.1 rfl
 exact I.step (ch:=ch) hch (fun b o hL hb hc e n=>u.keep b o e n (fun z=>(List.mem_cons.mp (I.stkSub b z)).elim hL hb) hc) (fun b o _ _ hc e n=>u.any e n hc) (fun b o hc e n=>u.free b o e n hc) (fun b o hc e=>u.there b o e hc) u.tups u.frzs u.tbls (fun m' hm=>by
  obtain ⟨o',es',ep',ho',r'⟩:=hm
  rw [ho] at ho'; cases ho'
  exact ⟨_,es',ep',hL,r'⟩) hok hg
theorem Inv.turned {t':Nat} {it:Addr} (I:Inv X pins σ H s) (k:∀ b o,b ≠ it → s.heap.get? b = some o → h'.get? b = some o) (hn:H it = none) (hL:it ≠ X.env.locals)
  (h1:it ∈ X.ex ∨ X.s₀.heap.objs.size ≤ it) (h2:∀ x c,X.env.cells.lookup x = some c → c ≠ it) (h3:∀ p ∈ X.pn ++ pins,p.1 ≠ it) : Inv X pins σ H { s with heap:=h',toks:=t' }:=by
 have nit:∀ b u,H b = some u → b ≠ it:=fun b u e z=>by rw [z,hn] at e; cases e
 refine I.step (g':=s.gens) (d':=s.drawn) (ch:=[it]) (fun b hb=>?_) (fun b o _ _ hc e _=>k b o (fun z=>hc (by simp [z])) e) (fun b o _ _ hc e _=>⟨o.slots,k b o (fun z=>hc (by simp [z])) e⟩) (fun _ _ _ _ n=>n)
  (fun b o hc e=>⟨o,k b o (fun z=>hc (by simp [z])) e⟩) (fun _ _ e=>e) (fun _ _ _ e=>e) (fun b ps e=>⟨#[],by rw [e]; simp⟩) (fun m hm=>?_) (fun b u e=>?_) I.bare
 ·have e:b = it:=by simpa using hb
  subst e
  exact ⟨h1,hL,h2,h3⟩
 ·obtain ⟨o,es,ep,ho,r⟩:=hm
  exact ⟨o,es,ep,k _ o (Ne.symm hL) ho,r⟩
 ·refine (I.hok b u e).stay (fun c v hc q=>k c v ?_ q) (fun _ q=>q) fun _ _ q=>q
  rcases hc with z | z
  ·rw [z]; exact nit b u e
  ·exact nit c _ z
theorem Inv.tok (I:Inv X pins σ H s) (t:Nat) : Inv X pins σ H { s with toks:=t }:=I.un (h':=s.heap) (t':=t) Un.refl I.hok
theorem Inv.kept {t':Nat} (I:Inv X pins σ H s) (k:∀ b u,s.heap.get? b = some u → h'.get? b = some u) : Inv X pins σ H { s with heap:=h',toks:=t' }:=I.un (Un.kept k) (I.hok.kept k)
theorem Inv.laid {a:Addr} {o:HO} {t':Nat} (I:Inv X pins σ H s) (k:∀ b u,s.heap.get? b = some u → h'.get? b = some u) (hp:s.heap.objs.size ≤ a) (new:ObjOk X.prog X.w (upd H a o) h' a o) :
  Inv X pins σ (upd H a o) { s with heap:=h',toks:=t' }:=I.un (Un.laid k hp (I.hok.fresh hp)) (I.hok.laid k hp new)
theorem Inv.write {x e:Addr} {o:HO} {t':Nat} (I:Inv X pins σ H s) (mu:Mut (H x)) (he:e = x ∨ H e = some (.own x)) (k:∀ b u,b ≠ e → s.heap.get? b = some u → h'.get? b = some u) (heo:∃ u,h'.get? e = some u)
  (new:ObjOk X.prog X.w (upd H x o) h' x o) : Inv X pins σ (upd H x o) { s with heap:=h',toks:=t' }:=I.un (Un.write mu he k heo) (I.hok.write mu he k heo new)
theorem Inv.pins_of {pins':List (Addr × Obj)} (I:Inv X pins σ H s) (h:∀ p ∈ pins',s.heap.get? p.1 = some p.2 ∧ H p.1 = none ∧ p.1 ≠ X.env.locals ∧ p.1 ∉ X.fs ∧ ∀ v,p.2.data ≠ .cell v) : Inv X pins' σ H s :=
 ⟨I.ok,I.os,I.bare,I.base,I.loc,I.cell,I.free,I.freeC,fun p hp=>(List.mem_append.mp hp).elim (fun z=>I.pin p (List.mem_append_left _ z)) (h p),I.hok,I.len⟩
theorem zeW {N:List Str} (hN:N.Nodup) {i j:Nat} {x:Str} (a:N[i]? = some x) (b:N[j]? = some x) : i = j:=by
 obtain ⟨h1,e1⟩:=List.getElem?_eq_some_iff.mp a
 obtain ⟨h2,e2⟩:=List.getElem?_eq_some_iff.mp b
 exact (List.getElem_inj hN).mp (e1.trans e2.symm)
theorem ziw {M:Model} {A:Around} {E:Value → Shared → Prop} {i:Nat} {x:Str} {v:V} {u:Value} {Q:Unit → Shared → Prop} (I:Inv X pins σ H s) (hN:X.N.Nodup) (hi:X.N[i]? = some x) (hx:Loc X.env.scope x) (r:RelV v u)
  (h:∀ s',Inv X pins (σ.set i (some v)) H s' → (∃ a,Heap.SameBut a s.heap s'.heap ∧ (a = X.env.locals ∨ X.env.cells.lookup x = some a)) → Q () s') (hf:X.fn x = true ∨ X.env.scope.names.lookup x = some .local:=by first | exact .inl rfl | exact .inr rfl | assumption) : wpAny M A (storeName X.env x u) Q E s:=by
 obtain ⟨m,hn,hl⟩:=id I.loc
 have hcls:(X.env.scope.kind == .class || (X.env.scope.kind == .module && X.env.locals != X.env.globals)) = false:=by rw [I.ok.kind]; rfl
 have hiσ:i < σ.length:=by rw [I.len]; exact (List.getElem?_eq_some_iff.mp hi).1
 have cne:=I.cne
 have tracked:∀ {a:Addr} {h':Heap},(∃ o,s.heap.get? a = some o ∧ H a = none) → Heap.SameBut a s.heap h' → HOk X.prog X.w H h':=fun {a h'} ha hs b ob e=>by
  obtain ⟨_,_,hfree⟩:=ha
  refine (I.hok b ob e).stay (fun c w' hc q=>(hs.2 c ?_).trans q) (fun _ q=>q) fun _ _ q=>q
  rintro rfl
  rcases hc with rfl | hc
  ·rw [hfree] at e; cases e
  ·rw [hfree] at hc; cases hc
 rcases hx with hk | hk
 ·refine wpAny_storeName_local hk hn (fun h' hn' hs=>?_) hcls
  obtain ⟨oL,_,_,hoL,_⟩:=id hn
  refine h _ ⟨I.ok,I.os,I.bare,⟨fun b o e n hb hx=>?_,fun b o e n hb hx=>?_,I.base.free,fun b o e hx=>?_,I.base.tups,I.base.frzs,I.base.tbls⟩,⟨_,hn',fun j y v' e1 e2 e3=>?_⟩,fun y c e=>?_,I.free,I.freeC,fun p hp=>?_,tracked ⟨oL,hoL,I.free⟩ hs,by simpa using I.len⟩ ⟨_,hs,.inl rfl⟩
  ·exact (hs.2 b (Nat.ne_of_lt (Nat.lt_of_lt_of_le (Heap.lt_size e) I.ok.above))).trans (I.base.keep b o e n hb hx)
  ·obtain ⟨sl,e1⟩:=I.base.slot b o e n hb hx
   exact ⟨sl,(hs.2 b (Nat.ne_of_lt (Nat.lt_of_lt_of_le (Heap.lt_size e) I.ok.above))).trans e1⟩
  ·obtain ⟨o',e1⟩:=I.base.there b o e hx
   exact ⟨o',(hs.2 b (Nat.ne_of_lt (Nat.lt_of_lt_of_le (Heap.lt_size e) I.ok.above))).trans e1⟩
  ·by_cases hj:j = i
   ·subst hj
    rw [hi] at e1; cases e1
    rw [List.getElem?_set_self hiσ] at e2
    cases e2
    exact ⟨u,r,.inl ⟨hk,by simp⟩⟩
   ·rw [List.getElem?_set_ne (Ne.symm hj)] at e2
    obtain ⟨u',r',q⟩:=hl j y v' e1 e2 e3
    refine ⟨u',r',?_⟩
    rcases q with ⟨k,e⟩ | ⟨k,c,e,z⟩
    ·refine .inl ⟨k,?_⟩
     have:y ≠ x:=fun e=>hj (zeW hN e1 (e ▸ hi))
     simp [this,e]
    ·exact .inr ⟨k,c,e,z.sameBut hs (cne y c e)⟩
  ·obtain ⟨w',z⟩:=I.cell y c e
   exact ⟨w',z.sameBut hs (cne y c e)⟩
  ·obtain ⟨e,n,ne,nf,d⟩:=I.pin p hp
   exact ⟨(hs.2 p.1 ne).trans e,n,ne,nf,d⟩
 ·have hfn:X.fn x = true:=by
   rcases hf with z | z
   ·exact z
   ·rw [z] at hk; cases hk
  obtain ⟨c,hc⟩:=I.ok.has x (.inl hk)
  obtain ⟨w',z⟩:=I.cell x c hc
  refine wpAny_storeName_cell I.ok.kind hk hc z (fun h' hc' hs=>?_)
  obtain ⟨oc,hoc,hocd⟩:=id z
  refine h { s with heap:=h' } ⟨I.ok,I.os,I.bare,⟨fun b o e n hb hx=>?_,fun b o e n hb hx=>?_,I.base.free,fun b o e hx=>?_,I.base.tups,I.base.frzs,I.base.tbls⟩,⟨m,hn.sameBut hs (Ne.symm (cne x c hc)),fun j y v' e1 e2 e3=>?_⟩,fun y c' e=>?_,I.free,I.freeC,fun p hp=>?_,tracked ⟨oc,hoc,I.freeC x c hc⟩ hs,by simpa using I.len⟩ ⟨c,hs,.inr hc⟩
  ·exact (hs.2 b (Nat.ne_of_lt (Nat.lt_of_lt_of_le (Heap.lt_size e) (I.ok.cab x c hfn hc)))).trans (I.base.keep b o e n hb hx)
  ·obtain ⟨sl,e1⟩:=I.base.slot b o e n hb hx
   exact ⟨sl,(hs.2 b (Nat.ne_of_lt (Nat.lt_of_lt_of_le (Heap.lt_size e) (I.ok.cab x c hfn hc)))).trans e1⟩
  ·obtain ⟨o',e1⟩:=I.base.there b o e hx
   exact ⟨o',(hs.2 b (Nat.ne_of_lt (Nat.lt_of_lt_of_le (Heap.lt_size e) (I.ok.cab x c hfn hc)))).trans e1⟩
  ·by_cases hj:j = i
   ·subst hj
    rw [hi] at e1; cases e1
    rw [List.getElem?_set_self hiσ] at e2
    cases e2
    exact ⟨u,r,.inr ⟨.inl hk,c,hc,hc'⟩⟩
   ·rw [List.getElem?_set_ne (Ne.symm hj)] at e2
    obtain ⟨u',r',q⟩:=hl j y v' e1 e2 e3
    refine ⟨u',r',?_⟩
    rcases q with q | ⟨k,c',e,z'⟩
    ·exact .inl q
    ·refine .inr ⟨k,c',e,z'.sameBut hs ?_⟩
     rintro rfl
     exact hj (zeW hN e1 (I.ok.inj _ _ _ e hc ▸ hi))
  ·by_cases hcc:c' = c
   ·subst hcc; exact ⟨_,hc'⟩
   ·obtain ⟨w2,z2⟩:=I.cell y c' e
    exact ⟨w2,z2.sameBut hs hcc⟩
  ·obtain ⟨e,n,ne,nf,d⟩:=I.pin p hp
   refine ⟨(hs.2 p.1 ?_).trans e,n,ne,nf,d⟩
   intro q
   rw [q,hoc] at e
   have q':oc = p.2:=Option.some.inj e
   exact d w' (by rw [← q']; exact hocd)
theorem ze9 {M:Model} {A:Around} {E:Value → Shared → Prop} {i:Nat} {x:Str} {v:V} {u:Value} {Q:Unit → Shared → Prop} (I:Inv X pins σ H s) (hN:X.N.Nodup) (hi:X.N[i]? = some x) (hx:Loc X.env.scope x) (r:RelV v u)
  (h:∀ s',Inv X pins (σ.set i (some v)) H s' → Q () s') (hf:X.fn x = true ∨ X.env.scope.names.lookup x = some .local:=by first | exact .inl rfl | exact .inr rfl | assumption) : wpAny M A (storeName X.env x u) Q E s :=
 ziw I hN hi hx r (fun s' I' _=>h s' I') hf
theorem Inv.call' {s':Shared} {ch:List Addr} (I:Inv X pins σ H s) (ho:s'.os = s.os) (u:Un (frs X.stack) ch H H' s.heap s'.heap) (hok:HOk X.prog X.w H' s'.heap) (hg:AllBare s'.gens)
  (hch:∀ b ∈ ch,(b ∈ X.ex ∨ X.s₀.heap.objs.size ≤ b) ∧ b ≠ X.env.locals ∧ (∀ x c,X.env.cells.lookup x = some c → c ≠ b) ∧ ∀ p ∈ X.pn ++ pins,p.1 ≠ b) : Inv X pins σ H' s':=by
 obtain ⟨h',g',d',t',o'⟩:=s'
 have e:o' = s.os:=ho
 subst e
 exact I.call (g':=g') (t':=t') (d':=d') u hok hg hch
end
abbrev XK:=Value → Option Addr → Hp → Prop
abbrev St:=List (Option V)
abbrev VK:=V → Hp → Prop
abbrev TE:=St → Hp → VK → Prop
abbrev TT:=St → Hp → (Bool → Hp → Prop) → Prop
abbrev TA:=St → Hp → (List V → Hp → Prop) → Prop
structure Ends where
 nx:St → Hp → Prop
 rt:VK
 bk:St → Hp → Prop:=fun _ _=>False
 ct:St → Hp → Prop:=fun _ _=>False
abbrev TS:=Ends → St → Hp → Prop
def EP (X:Cx) (pins:List (Addr × Obj)) (σ:St) (Q:VK) (u:Value) (s':Shared) : Prop:=∃ v H',Inv X pins σ H' s' ∧ RelV v u ∧ Q v H'
def TP (X:Cx) (pins:List (Addr × Obj)) (σ:St) (Q:Bool → Hp → Prop) (b:Bool) (s':Shared) : Prop:=∃ H',Inv X pins σ H' s' ∧ Q b H'
def AP (X:Cx) (pins:List (Addr × Obj)) (σ:St) (Q:List V → Hp → Prop) (us:List Value) (s':Shared) : Prop:=∃ vs H',Inv X pins σ H' s' ∧ Vals vs us ∧ Q vs H'
def SP (X:Cx) (pins:List (Addr × Obj)) (D:Ends) (f:Flow) (s':Shared) : Prop :=
 match f with
 | .next=>∃ σ' H',Inv X pins σ' H' s' ∧ D.nx σ' H'
 | .brk=>∃ σ' H',Inv X pins σ' H' s' ∧ D.bk σ' H'
 | .cont=>∃ σ' H',Inv X pins σ' H' s' ∧ D.ct σ' H'
 | .ret u=>∃ v σ' H',Inv X pins σ' H' s' ∧ RelV v u ∧ D.rt v H'
def PE (X:Cx) (e:Expr) (t:TE) : Prop :=
 ∀ (pins:List (Addr × Obj)) (s:Shared) (σ:St) (H:Hp) (Q:VK),Inv X pins σ H s → t σ H Q → wpAny (model X.prog X.w) X.A (eval e X.env) (EP X pins σ Q) X.xe s
def PT (X:Cx) (e:Expr) (t:TT) : Prop :=
 ∀ (pins:List (Addr × Obj)) (s:Shared) (σ:St) (H:Hp) (Q:Bool → Hp → Prop),Inv X pins σ H s → t σ H Q → wpAny (model X.prog X.w) X.A (isTrue e X.env (eval e X.env)) (TP X pins σ Q) X.xe s
def PW (X:Cx) (e:Expr) (t:TT) : Prop :=
 ∀ (whole:Sem Value) (pins:List (Addr × Obj)) (s:Shared) (σ:St) (H:Hp) (Q:Bool → Hp → Prop),Inv X pins σ H s → t σ H Q → wpAny (model X.prog X.w) X.A (isTrue e X.env whole) (TP X pins σ Q) X.xe s
theorem PW.pt {X:Cx} {e:Expr} {t:TT} (h:PW X e t) : PT X e t:=h _
def PA (X:Cx) (es:List Expr) (t:TA) : Prop :=
 ∀ (pos:Pos) (pins:List (Addr × Obj)) (s:Shared) (σ:St) (H:Hp) (Q:List V → Hp → Prop),Inv X pins σ H s → t σ H Q → wpAny (model X.prog X.w) X.A (spliced (backTo pos (starEach es X.env))) (AP X pins σ Q) X.xe s
def PS (X:Cx) (st:Stmt) (t:TS) : Prop :=
 ∀ (pins:List (Addr × Obj)) (s:Shared) (σ:St) (H:Hp) (D:Ends),Inv X pins σ H s → t D σ H → wpAny (model X.prog X.w) X.A (exec st X.env) (SP X pins D) X.xe s
def PSs (X:Cx) (st:List Stmt) (t:TS) : Prop :=
 ∀ (pins:List (Addr × Obj)) (s:Shared) (σ:St) (H:Hp) (D:Ends),Inv X pins σ H s → t D σ H → wpAny (model X.prog X.w) X.A (execs st X.env) (SP X pins D) X.xe s
theorem thn {α:Type} {t:Sem α} {Q Q':α → Shared → Prop} {M:Model} {A:Around} {E:Value → Shared → Prop} {s:Shared} (h:wpAny M A t Q E s) (hQ:∀ a s,Q a s → Q' a s) : wpAny M A t Q' E s:=wpAny_mono h hQ fun _ _ x=>x
end L2
namespace L2
open PySem PySem.Spec PyProof.Rows
section
variable {X:Cx}
theorem bin {a b:Expr} {ta tb:TE} (ha:PE X a ta) (hb:PE X b tb) {pins:List (Addr × Obj)} {s:Shared} {σ:St} {H:Hp} {R:V → V → Hp → Prop} (I:Inv X pins σ H s) (h:ta σ H fun x H1=>tb σ H1 fun y H2=>R x y H2)
  {α:Type} {Q:α → Shared → Prop} {f:Value → Value → Sem α}
  (hf:∀ v u s2 x y H2,Inv X pins σ H2 s2 → RelV x v → RelV y u → R x y H2 → wpAny (model X.prog X.w) X.A (f v u) Q X.xe s2) :
  wpAny (model X.prog X.w) X.A (eval a X.env) (fun v s₁=>wpAny (model X.prog X.w) X.A (eval b X.env) (fun u s₂=>wpAny (model X.prog X.w) X.A (f v u) Q X.xe s₂) X.xe s₁) X.xe s:=by
 refine thn (ha pins s σ H _ I h) fun v s1 ⟨x,H1,I1,r1,q1⟩=>?_
 refine thn (hb pins s1 σ H1 _ I1 q1) fun u s2 ⟨y,H2,I2,r2,q2⟩=>?_
 exact hf v u s2 x y H2 I2 r1 r2 q2
def tVar (i:Nat) : TE:=fun σ H Q=>∃ v,σ[i]? = some (some v) ∧ Q v H
def tC (v:V) : TE:=fun _ H Q=>Q v H
theorem zjw {i:Nat} {x:Str} {pos:Pos} (hN:X.N[i]? = some x) (hv:Vis X.env.scope x) (hd:(x == ("__debug__" : Str)) = false:=by decide) (hcd:(x == ("__classdict__" : Str)) = false:=by decide) : PE X (.Name x pos) (tVar i):=by
 intro pins s σ H Q I h
 obtain ⟨v,e,h⟩:=h
 obtain ⟨m,hn,hl⟩:=I.loc
 obtain ⟨u,r,l⟩:=hl i x v hN e hv
 have fin:EP X pins σ Q u s:=⟨v,H,I,r,h⟩
 rcases l with ⟨hk,hm⟩ | ⟨hk,c,hc,hcell⟩
 ·exact wpAny_Name (wpAny_loadName_local I.ok.kind hk hn hm fin) hd
 ·rcases hk with hk | hk
  ·exact wpAny_Name (wpAny_loadName_cell I.ok.kind hk hc hcell fin) hd
  ·exact wpAny_Name (wpAny_loadName_free I.ok.kind hk hc hcell fin hcd) hd
theorem znz {i j pos} : PE X (.Constant (.int i) j pos) (tC (.int i)):=fun _ _ _ H _ I h=>wpAny_Constant_int ⟨.int i,H,I.tok _,⟨_,rfl⟩,h⟩
theorem zoE {b j pos} : PE X (.Constant (.bool b) j pos) (tC (.bl b)):=fun _ _ _ H _ I h=>Constant_bool ⟨.bl b,H,I,rfl,h⟩
theorem znX {j pos} : PE X (.Constant .none j pos) (tC .non):=fun _ _ _ H _ I h=>Constant_none ⟨.non,H,I,rfl,h⟩
theorem znm {x j pos} : PE X (.Constant (.str x) j pos) (tC (.str x)):=fun _ _ _ H _ I h=>Calls.Constant_str ⟨.str x,H,I.tok _,⟨_,rfl⟩,h⟩
def Gl (X:Cx) (x:Str) : Prop:=X.env.kindOf x = some .globalImplicit
theorem zd2 {E:Value → Shared → Prop} {pins:List (Addr × Obj)} {s:Shared} {σ:St} {H:Hp} {x:Str} {u:Value} {pos:Pos} {Q:Value → Shared → Prop} (I:Inv X pins σ H s) (hg:Gl X x) (hm:X.mg x = some u) (h:Q u s)
  (hd:(x == ("__debug__" : Str)) = false:=by decide) : wpAny (model X.prog X.w) X.A (eval (.Name x pos) X.env) Q E s :=
 Calls.Name_function_global I.ok.kind hg (Calls.loadGlobal_global (by rw [I.ok.glob]; exact I.mod.glob.keeps I.bk) hm h) hd
theorem zez {E:Value → Shared → Prop} {pins:List (Addr × Obj)} {s:Shared} {σ:St} {H:Hp} {x:Str} {u:Value} {pos:Pos} {Q:Value → Shared → Prop} (I:Inv X pins σ H s) (hg:Gl X x) (hm:X.mg x = none) (hv:bootBuiltins x = some u) (h:Q u s)
  (hn:x ≠ "__name__" := by decide) (hd:(x == ("__debug__" : Str)) = false:=by decide) : wpAny (model X.prog X.w) X.A (eval (.Name x pos) X.env) Q E s:=by
 obtain ⟨mb,h1,h2⟩:=I.mod.blt
 exact Calls.Name_function_global I.ok.kind hg (Calls.loadGlobal_builtin (by rw [I.ok.glob]; exact I.mod.glob.keeps I.bk) hm (by rw [I.ok.blt]; exact h1.keeps I.bk) ((h2 x hn).trans hv) h) hd
theorem ziM {x:Str} {v:V} {u:Value} {pos:Pos} (hg:Gl X x) (hm:X.mg x = some u) (r:RelV v u) (hd:(x == ("__debug__" : Str)) = false:=by decide) : PE X (.Name x pos) (tC v) :=
 fun _ _ _ H _ I h=>zd2 I hg hm ⟨v,H,I,r,h⟩ hd
theorem zlH {x:Str} {v:V} {u:Value} {pos:Pos} (hg:Gl X x) (hm:X.mg x = none) (hv:bootBuiltins x = some u) (r:RelV v u) (hn:x ≠ "__name__" := by decide) (hd:(x == ("__debug__" : Str)) = false:=by decide) : PE X (.Name x pos) (tC v) :=
 fun _ _ _ H _ I h=>zez I hg hm hv ⟨v,H,I,r,h⟩ hn hd
variable {a b:Expr} {ta tb:TE} {pos:Pos}
def PC (X:Cx) (op:CmpOp) (a b:Expr) (t:TE) : Prop :=
 ∀ (pins:List (Addr × Obj)) (s:Shared) (σ:St) (H:Hp) (Q:VK),Inv X pins σ H s → t σ H Q →
  wpAny (model X.prog X.w) X.A (eval a X.env) (fun v s₁=>wpAny (model X.prog X.w) X.A (eval b X.env) (fun u s₂=>wpAny (model X.prog X.w) X.A (compareOp op v u) (EP X pins σ Q) X.xe s₂) X.xe s₁) X.xe s
theorem zcN (b:Expr) {op:CmpOp} (h:op ≠ .In) (h2:op ≠ .NotIn) : behindInMarks op b = false:=by
 have e1:(op == CmpOp.In) = false:=by cases op <;> first | rfl | exact absurd rfl h
 have e2:(op == CmpOp.NotIn) = false:=by cases op <;> first | rfl | exact absurd rfl h2
 cases b <;> simp [behindInMarks,e1,e2]
def tIsN (ta:TE) : TE:=fun σ H Q=>ta σ H fun x H1=>Q (.bl (decide (x = .non))) H1
def zlM (ta:TE) : TE:=fun σ H Q=>ta σ H fun x H1=>Q (.bl (!decide (x = .non))) H1
theorem RelV.none_iff {x:V} {v:Value} (r:RelV x v) : (v == Value.none) = decide (x = .non):=by
 cases x with
 | non=>cases r; rfl
 | bl _=>cases r; rfl
 | int _=>obtain ⟨t,rfl⟩:=r; rfl
 | str _=>obtain ⟨t,rfl⟩:=r; rfl
 | byt _=>obtain ⟨t,rfl⟩:=r; rfl
 | flt _=>obtain ⟨t,rfl⟩:=r; rfl
 | ref _=>cases r; rfl
 | ty _=>cases r; rfl
theorem zlu {j pos'} (ha:PE X a ta) : PC X .Is a (.Constant .none j pos') (tIsN ta):=by
 intro pins s σ H Q I h
 refine thn (ha pins s σ H _ I h) fun v s1 ⟨x,H1,I1,r1,q1⟩=>?_
 exact Constant_none (is_none_gen ⟨.bl _,H1,I1,by rw [r1.none_iff]; rfl,q1⟩)
theorem zmu {j pos'} (ha:PE X a ta) : PC X .IsNot a (.Constant .none j pos') (zlM ta):=by
 intro pins s σ H Q I h
 refine thn (ha pins s σ H _ I h) fun v s1 ⟨x,H1,I1,r1,q1⟩=>?_
 exact Constant_none (isnot_none_gen ⟨.bl _,H1,I1,by rw [r1.none_iff]; rfl,q1⟩)
def tB (t:TE) : TT:=fun σ H Q=>t σ H fun x H1=>∃ c,x = .bl c ∧ Q c H1
theorem zlA {op:CmpOp} {t:TE} (h:PC X op a b t) (h1:behindInMarks op b = false:=by first | exact zcN _ (by decide) (by decide) | rfl) : PE X (.Compare a [op] [b] pos) t:=fun pins s σ H Q I hw=>wpAny_Compare1 (h pins s σ H Q I hw) h1
theorem zlz {op:CmpOp} {t:TE} (h:PC X op a b t) (h1:behindInMarks op b = false:=by first | exact zcN _ (by decide) (by decide) | rfl) : PT X (.Compare a [op] [b] pos) (tB t):=by
 intro pins s σ H Q I hw
 refine wpAny_isTrue_Compare1 (thn (h pins s σ H _ I hw) fun v s1 h1=>thn h1 fun u s2 h2=>thn h2 fun c s3 ⟨x,H1,I1,r1,q1⟩=>?_) h1
 obtain ⟨d,rfl,q⟩:=q1
 cases r1
 exact wpAny_truthy_bool ⟨H1,I1,q⟩
theorem znA {e:Expr} {t:TE} (h:PE X e t) (he:∀ whole,isTrue e X.env whole = (do let v ← whole; standAt e.pos; holding [v] (truthy v)):=by intro _; rfl) : PT X e (tB t):=by
 intro pins s σ H Q I hw
 refine isTrue_plain (thn (h pins s σ H _ I hw) fun v s1 ⟨x,H1,I1,r1,q1⟩=>?_) (he _)
 obtain ⟨d,rfl,q⟩:=q1
 cases r1
 exact wpAny_truthy_bool ⟨H1,I1,q⟩
variable {tA tB':TT} {rest:List Expr}
def tAnd (t u:TT) : TT:=fun σ H Q=>t σ H fun c H1=>if c = true then u σ H1 Q else Q false H1
def tOr (t u:TT) : TT:=fun σ H Q=>t σ H fun c H1=>if c = true then Q true H1 else u σ H1 Q
def tNot (t:TT) : TT:=fun σ H Q=>t σ H fun c H1=>Q (!c) H1
theorem zmo (ha:PT X a tA) : PW X (.BoolOp .And [a] pos) tA:=by
 intro wh pins s σ H Q I h
 refine isTrue_and (thn (ha pins s σ H Q I h) fun c s1 e=>?_)
 cases c with
 | true=>exact isTrue_and_nil e
 | false=>exact e
theorem znV (ha:PT X a tA) : PW X (.BoolOp .Or [a] pos) tA:=by
 intro wh pins s σ H Q I h
 refine isTrue_or (thn (ha pins s σ H Q I h) fun c s1 e=>?_)
 cases c with
 | false=>exact isTrue_or_nil e
 | true=>exact e
theorem znu (ha:PT X a tA) (hb:PW X (.BoolOp .And (b :: rest) pos) tB') : PW X (.BoolOp .And (a :: b :: rest) pos) (tAnd tA tB'):=by
 intro wh pins s σ H Q I h
 refine isTrue_and (thn (ha pins s σ H _ I h) fun c s1 ⟨H1,I1,q1⟩=>?_)
 cases c with
 | true=>exact hb wh pins s1 σ H1 Q I1 q1
 | false=>exact ⟨H1,I1,q1⟩
theorem zot (ha:PT X a tA) (hb:PW X (.BoolOp .Or (b :: rest) pos) tB') : PW X (.BoolOp .Or (a :: b :: rest) pos) (tOr tA tB'):=by
 intro wh pins s σ H Q I h
 refine isTrue_or (thn (ha pins s σ H _ I h) fun c s1 ⟨H1,I1,q1⟩=>?_)
 cases c with
 | true=>exact ⟨H1,I1,q1⟩
 | false=>exact hb wh pins s1 σ H1 Q I1 q1
theorem zm7 (ha:PT X a tA) : PT X (.UnaryOp .Not a pos) (tNot tA):=by
 intro pins s σ H Q I h
 exact isTrue_not (ha pins s σ H (fun c H1=>Q (!c) H1) I h)
def zoi (ta tb:TE) : TE:=fun σ H Q=>ta σ H fun x H1=>∃ c,x = .bl c ∧ if c = true then tb σ H1 Q else Q (.bl false) H1
def tOrV (ta tb:TE) : TE:=fun σ H Q=>ta σ H fun x H1=>∃ c,x = .bl c ∧ if c = true then Q (.bl true) H1 else tb σ H1 Q
def zm4 (ta:TE) : TE:=fun σ H Q=>ta σ H fun x H1=>∃ c,x = .bl c ∧ Q (.bl (!c)) H1
theorem zni {op} {t:TE} (h:PE X a t) : PE X (.BoolOp op [a] pos) t:=fun pins s σ H Q I hw=>BoolOp_one (h pins s σ H Q I hw)
theorem znW (ha:PE X a ta) (hb:PE X (.BoolOp .And (b :: rest) pos) tb) : PE X (.BoolOp .And (a :: b :: rest) pos) (zoi ta tb):=by
 intro pins s σ H Q I h
 refine BoolOp_and (thn (ha pins s σ H _ I h) fun v s1 ⟨x,H1,I1,r1,q1⟩=>?_)
 obtain ⟨c,rfl,q1⟩:=q1
 cases r1
 refine wpAny_truthy_bool ?_
 cases c with
 | true=>exact hb pins s1 σ H1 Q I1 q1
 | false=>exact ⟨.bl false,H1,I1,rfl,q1⟩
theorem zoI (ha:PE X a ta) (hb:PE X (.BoolOp .Or (b :: rest) pos) tb) : PE X (.BoolOp .Or (a :: b :: rest) pos) (tOrV ta tb):=by
 intro pins s σ H Q I h
 refine BoolOp_or (thn (ha pins s σ H _ I h) fun v s1 ⟨x,H1,I1,r1,q1⟩=>?_)
 obtain ⟨c,rfl,q1⟩:=q1
 cases r1
 refine wpAny_truthy_bool ?_
 cases c with
 | false=>exact hb pins s1 σ H1 Q I1 q1
 | true=>exact ⟨.bl true,H1,I1,rfl,q1⟩
theorem znR (ha:PE X a ta) : PE X (.UnaryOp .Not a pos) (zm4 ta):=by
 intro pins s σ H Q I h
 refine UnaryOp_ (thn (ha pins s σ H _ I h) fun v s1 ⟨x,H1,I1,r1,q1⟩=>?_)
 obtain ⟨c,rfl,q1⟩:=q1
 cases r1
 exact not_of (wpAny_truthy_bool ⟨.bl (!c),H1,I1,rfl,q1⟩)
end
end L2
namespace L2
open PySem PySem.Spec PyProof.Rows
def SqL (K:PySem.W.Frag) (H:Hp) (a:Addr) (xs:List V) : Prop :=
 Rd H a (.lst xs) ∨
  ∃ (o:Obj) (its:Array Value) (n:Nat),K.lookup a = some o ∧ o.cls = .type "list" ∧ o.dict = none ∧ o.data = .seq its n ∧ its.size ≤ sizeLine ∧ Vals xs its.toList
def SqT (K:PySem.W.Frag) (H:Hp) (a:Addr) (xs:List V) : Prop :=
 Rd H a (.tup xs) ∨
  ∃ (o:Obj) (its:Array Value) (n:Nat),K.lookup a = some o ∧ o.cls = .type "tuple" ∧ o.data = .seq its n ∧ its.size ≤ sizeLine ∧ Vals xs its.toList
def absV:Value → Option V
 | .none=>some .non
 | .bool b=>some (.bl b)
 | .int i _=>some (.int i)
 | .str x _=>some (.str x)
 | .bytes b _=>some (.byt b)
 | .float b _=>some (.flt b)
 | .ref a=>some (.ref a)
 | .type n=>some (.ty n)
 | _=>none
theorem RelV.abs {x:V} {u:Value} (r:RelV x u) : absV u = some x:=by
 cases x with
 | non=>cases r; rfl
 | bl _=>cases r; rfl
 | int _=>obtain ⟨t,rfl⟩:=r; rfl
 | str _=>obtain ⟨t,rfl⟩:=r; rfl
 | byt _=>obtain ⟨t,rfl⟩:=r; rfl
 | flt _=>obtain ⟨t,rfl⟩:=r; rfl
 | ref _=>cases r; rfl
 | ty _=>cases r; rfl
theorem RelV.inj {x y:V} {u:Value} (r:RelV x u) (q:RelV y u) : x = y:=Option.some.inj (r.abs.symm.trans q.abs)
theorem Vals.inj:∀ {xs ys:List V} {us:List Value},Vals xs us → Vals ys us → xs = ys
 | _,_,_,.nil,.nil=>rfl
 | _,_,_,.cons r t,.cons r' t'=>by rw [r.inj r',Vals.inj t t']
section
variable {X:Cx} {pins:List (Addr × Obj)} {σ:St} {H:Hp} {s:Shared} {a:Addr} {xs ys:List V}
theorem SqL.of {K:PySem.W.Frag} (h:H a = some (.lst xs)) : SqL K H a xs:=.inl (.inl h)
theorem SqT.of {K:PySem.W.Frag} (h:H a = some (.tup xs)) : SqT K H a xs:=.inl (.inl h)
theorem Inv.list (I:Inv X pins σ H s) (h:SqL X.K H a xs) : ∃ its:List Value,Vals xs its ∧ PlainL s.heap a its.toArray ∧ xs.length ≤ sizeLine:=by
 rcases h with h | ⟨o,its,n,hk,hc,hd,hs,hz,r⟩
 ·obtain ⟨z,its,n,r,e⟩:=h.ok I.hok
  exact ⟨its,r,⟨_,n,e,rfl,rfl,rfl⟩,z⟩
 ·refine ⟨its.toList,r,⟨o,n,I.kIn a o hk,hc,hd,by simpa using hs⟩,?_⟩
  have e:=r.length
  simp only [Array.length_toList] at e
  omega
theorem Inv.tuple (I:Inv X pins σ H s) (h:SqT X.K H a xs) : ∃ its:List Value,Vals xs its ∧ IsTup s.heap a its.toArray ∧ xs.length ≤ sizeLine:=by
 rcases h with h | ⟨o,its,n,hk,hc,hs,hz,r⟩
 ·obtain ⟨z,its,r,p⟩:=h.ok I.hok
  exact ⟨its,r,p,z⟩
 ·refine ⟨its.toList,r,⟨o,I.kIn a o hk,hc,n,by simpa using hs⟩,?_⟩
  have e:=r.length
  simp only [Array.length_toList] at e
  omega
theorem Inv.list_inj (I:Inv X pins σ H s) (h:SqL X.K H a xs) (h':SqL X.K H a ys) : xs = ys:=by
 obtain ⟨its,r,⟨o,n,e,_,_,d⟩,_⟩:=I.list h
 obtain ⟨its',r',⟨o',n',e',_,_,d'⟩,_⟩:=I.list h'
 rw [e] at e'; cases e'
 rw [d] at d'
 injection d' with d1 _
 have:its = its':=by simpa using congrArg Array.toList d1
 subst this
 exact r.inj r'
theorem Inv.tuple_inj (I:Inv X pins σ H s) (h:SqT X.K H a xs) (h':SqT X.K H a ys) : xs = ys:=by
 obtain ⟨its,r,⟨o,e,_,n,d⟩,_⟩:=I.tuple h
 obtain ⟨its',r',⟨o',e',_,n',d'⟩,_⟩:=I.tuple h'
 rw [e] at e'; cases e'
 rw [d] at d'
 injection d' with d1 _
 have:its = its':=by simpa using congrArg Array.toList d1
 subst this
 exact r.inj r'
end
abbrev Cx.wish (X:Cx) (E:Value → Shared → Prop) : Cx:={ X with xe:=E }
abbrev Cx.nox (X:Cx) : Cx:=X.wish fun _ _=>False
theorem Cx.Ok.wish {X:Cx} (ok:X.Ok) (E:Value → Shared → Prop) : (X.wish E).Ok :=
 ⟨ok.mod,ok.kind,ok.glob,ok.blt,ok.above,ok.inj,ok.has,ok.cab,ok.hd,ok.frames,ok.stk,ok.exf,ok.bs,ok.bsz,ok.noex,ok.exfs,ok.funs,ok.frf⟩
theorem Cx.Ok.unwish {X:Cx} {E:Value → Shared → Prop} (ok:(X.wish E).Ok) : X.Ok :=
 ⟨ok.mod,ok.kind,ok.glob,ok.blt,ok.above,ok.inj,ok.has,ok.cab,ok.hd,ok.frames,ok.stk,ok.exf,ok.bs,ok.bsz,ok.noex,ok.exfs,ok.funs,ok.frf⟩
section
variable {X:Cx} {pins:List (Addr × Obj)} {σ:St} {H:Hp} {s:Shared} {E:Value → Shared → Prop}
theorem Inv.wish (I:Inv X pins σ H s) (E:Value → Shared → Prop) : Inv (X.wish E) pins σ H s:=⟨I.ok.wish E,I.os,I.bare,I.base,I.loc,I.cell,I.free,I.freeC,I.pin,I.hok,I.len⟩
theorem Inv.unwish (I:Inv (X.wish E) pins σ H s) : Inv X pins σ H s:=⟨I.ok.unwish,I.os,I.bare,I.base,I.loc,I.cell,I.free,I.freeC,I.pin,I.hok,I.len⟩
theorem SP.unwish {D:Ends} {f:Flow} {s':Shared} (h:SP (X.wish E) pins D f s') : SP X pins D f s':=by
 cases f with
 | next=>obtain ⟨σ',H',I,q⟩:=h; exact ⟨σ',H',I.unwish,q⟩
 | brk=>obtain ⟨σ',H',I,q⟩:=h; exact ⟨σ',H',I.unwish,q⟩
 | cont=>obtain ⟨σ',H',I,q⟩:=h; exact ⟨σ',H',I.unwish,q⟩
 | ret u=>obtain ⟨v,σ',H',I,r,q⟩:=h; exact ⟨v,σ',H',I.unwish,r,q⟩
theorem PSs.nox {st:List Stmt} {t:TS} (h:PSs X.nox st t) : PSs X st t:=fun pins s σ H D I hw =>
 wpAny_mono (h pins s σ H D (I.wish _) hw) (fun _ _ q=>q.unwish) fun _ _ z=>False.elim z
end
section
variable {X:Cx} {st:Stmt} {rest:List Stmt} {t u:TS} {e:Expr} {te:TE} {pos:Pos}
def zi3:TS:=fun D σ H=>D.nx σ H
def tSeq (t u:TS) : TS:=fun D σ H=>t { D with nx:=u D } σ H
theorem zml:PSs X [] zi3:=fun _ _ σ H _ I h=>wpAny_execs_nil ⟨σ,H,I,h⟩
theorem zkR (h1:PS X st t) (h2:PSs X rest u) : PSs X (st :: rest) (tSeq t u):=by
 intro pins s σ H D I h
 refine wpAny_execs_cons (thn (h1 pins s σ H { D with nx:=u D } I h) fun f s1 q=>?_)
 cases f with
 | next =>
  obtain ⟨σ',H',I',q⟩:=q
  exact h2 pins s1 σ' H' D I' q
 | ret v=>exact q
 | brk=>exact q
 | cont=>exact q
theorem zjk (h1:PS X st t) : PSs X [st] t:=by
 intro pins s σ H D I h
 refine wpAny_execs_cons (thn (h1 pins s σ H D I h) fun f s1 q=>?_)
 cases f with
 | next=>exact wpAny_execs_nil q
 | ret v=>exact q
 | brk=>exact q
 | cont=>exact q
theorem Inv.quiet {pins:List (Addr × Obj)} {σ:St} {H:Hp} {s:Shared} (I:Inv X pins σ H s) : interactive X.env = false:=by simp [interactive,I.ok.kind]
def zf1 (te:TE) : TS:=fun D σ H=>te σ H fun _ H1=>D.nx σ H1
theorem zgI (he:PE X e te) (hs:swapsWith e none pos.line X.env = pure false:=by rfl) : PS X (.Expr e pos) (zf1 te):=by
 intro pins s σ H D I h
 exact wpAny_Expr_any (thn (he pins s σ H _ I h) fun v s1 ⟨x,H1,I1,r1,q1⟩=>⟨σ,H1,I1,q1⟩) I.quiet hs
def tRet (te:TE) : TS:=fun D σ H=>te σ H D.rt
theorem zno (he:PE X e te) : PS X (.Return (some e) pos) (tRet te):=by
 intro pins s σ H D I h
 exact wpAny_Return_some (thn (he pins s σ H _ I h) fun v s1 ⟨x,H1,I1,r1,q1⟩=>⟨x,σ,H1,I1,r1,q1⟩)
def tIfS (c:TT) (t u:TS) : TS:=fun D σ H=>c σ H fun b H1=>if b = true then t D σ H1 else u D σ H1
theorem zoG {c:Expr} {a b:List Stmt} {tc:TT} (hc:PT X c tc) (ha:PSs X a t) (hb:PSs X b u) : PS X (.If c a b pos) (tIfS tc t u):=by
 intro pins s σ H D I h
 refine wpAny_If (thn (hc pins s σ H _ I h) fun d s1 ⟨H1,I1,q1⟩=>?_)
 cases d with
 | true=>exact ha pins s1 σ H1 D I1 q1
 | false=>exact hb pins s1 σ H1 D I1 q1
end
abbrev TG:=V → St → Hp → (St → Hp → Prop) → Prop
abbrev TGs:=List V → St → Hp → (St → Hp → Prop) → Prop
def PG (X:Cx) (target:Expr) (t:TG) : Prop :=
 ∀ (pins:List (Addr × Obj)) (s:Shared) (σ:St) (H:Hp) (v:V) (u:Value) (Q:St → Hp → Prop),Inv X pins σ H s → RelV v u → t v σ H Q →
  wpAny (model X.prog X.w) X.A (assign target X.env u) (fun _ s'=>∃ σ' H',Inv X pins σ' H' s' ∧ Q σ' H') X.xe s
def PGs (X:Cx) (ts:List Expr) (t:TGs) : Prop :=
 ∀ (pins:List (Addr × Obj)) (s:Shared) (σ:St) (H:Hp) (vs:List V) (us:List Value) (Q:St → Hp → Prop),Inv X pins σ H s → Vals vs us → t vs σ H Q →
  wpAny (model X.prog X.w) X.A (assignInOrder ((assignEach ts X.env).map (·.2)) us) (fun _ s'=>∃ σ' H',Inv X pins σ' H' s' ∧ Q σ' H') X.xe s
abbrev TSet:=V → V → V → Hp → (Hp → Prop) → Prop
def PSet (X:Cx) (t:TSet) : Prop :=
 ∀ (pins:List (Addr × Obj)) (s:Shared) (σ:St) (H:Hp) (o i v:V) (ov iv u:Value) (Q:Hp → Prop),Inv X pins σ H s → RelV o ov → RelV i iv → RelV v u → t o i v H Q →
  wpAny (model X.prog X.w) X.A (setItem ov iv u) (fun _ s'=>∃ H',Inv X pins σ H' s' ∧ Q H') X.xe s
section
variable {X:Cx} {pos:Pos}
def zaL (i:Nat) : TG:=fun v σ H Q=>Q (σ.set i (some v)) H
theorem zlV {i:Nat} {x:Str} (hN:X.N.Nodup) (hi:X.N[i]? = some x) (hx:Loc X.env.scope x) (hf:X.fn x = true ∨ X.env.scope.names.lookup x = some .local:=by first | exact .inl rfl | exact .inr rfl | assumption) : PG X (.Name x pos) (zaL i):=by
 intro pins s σ H v u Q I r h
 exact wpAny_assign_Name (ze9 I hN hi hx r (fun s' I'=>⟨_,H,I',h⟩) hf)
def gNil:TGs:=fun vs σ H Q=>vs = [] ∧ Q σ H
def zkK (t:TG) (u:TGs) : TGs:=fun vs σ H Q=>∃ v r,vs = v :: r ∧ t v σ H fun σ' H'=>u r σ' H' Q
theorem zms:PGs X [] gNil:=by
 intro pins s σ H vs us Q I r h
 obtain ⟨e,h⟩:=h
 subst e
 cases r
 exact assignInOrder_nil ⟨σ,H,I,h⟩
theorem zky {e:Expr} {es:List Expr} {t:TG} {u:TGs} (h1:PG X e t) (h2:PGs X es u)
  (hs:(assignEach (e :: es) X.env).map (·.2) = assign e X.env :: (assignEach es X.env).map (·.2):=by rfl) : PGs X (e :: es) (zkK t u):=by
 intro pins s σ H vs us Q I r h
 obtain ⟨v,vr,e1,h⟩:=h
 subst e1
 cases r with
 | cons r rr =>
  rw [hs]
  refine assignInOrder_cons (thn (h1 pins s σ H _ _ _ I r h) fun _ s1 ⟨σ1,H1,I1,q1⟩=>?_)
  exact h2 pins s1 σ1 H1 _ _ Q I1 rr q1
def gTup (K:PySem.W.Frag) (n:Nat) (t:TGs) : TG:=fun v σ H Q=>∃ a xs,v = .ref a ∧ SqT K H a xs ∧ xs.length = n ∧ t xs σ H Q
theorem zm8 {es:List Expr} {k:Nat} {t:TGs} {n:Nat} (hc:X.calm = true) (h:PGs X es t)
  (hn:(assignEach es X.env).length = n:=by rfl) (hst:(assignEach es X.env).findIdx? (·.1) = none:=by rfl) : PG X (.Tuple es k pos) (gTup X.K n t):=by
 intro pins s σ H v u Q I r hw
 obtain ⟨a,xs,e1,hq,hl,hw⟩:=hw
 subst e1
 cases r
 obtain ⟨its,rv,ht,hz⟩:=I.tuple hq
 refine assign_Tuple_tuple (I.ok.hd hc) ht (by simp [hn,← hl,rv.length]) hst fun h' hx=>?_
 have I1:Inv X pins σ H { s with heap:=h' }:=I.kept (t':=s.toks) fun b o e=>hx b o (Nat.ne_of_lt (Heap.lt_size e)) e
 exact h pins _ σ H xs _ Q I1 (by simpa using rv) hw
def gSub (to ti:TE) (t:TSet) : TG:=fun v σ H Q=>to σ H fun o H1=>ti σ H1 fun i H2=>t o i v H2 fun H3=>Q σ H3
theorem zm0 {o i:Expr} {to ti:TE} {t:TSet} (ho:PE X o to) (hi:PE X i ti) (hs:PSet X t)
  (ha:∀ v,assign (.Subscript o i pos) X.env v = (do
   let ov ← holding [v] (eval o X.env)
   let iv ← holding [v,ov] (eval i X.env)
   standAt pos
   holding [v,ov,iv] (setItem ov iv v)
   release [v,ov,iv] []):=by intro _; rfl) : PG X (.Subscript o i pos) (gSub to ti t):=by
 intro pins s σ H v u Q I r h
 rw [ha]
 refine wpAny_bind (wpAny_holding (thn (ho pins s σ H _ I h) fun ov s1 ⟨x,H1,I1,r1,q1⟩=>?_))
 refine wpAny_bind (wpAny_holding (thn (hi pins s1 σ H1 _ I1 q1) fun iv s2 ⟨y,H2,I2,r2,q2⟩=>?_))
 refine wpAny_bind (wpAny_standAt (wpAny_bind (wpAny_holding (thn (hs pins s2 σ H2 x y v ov iv u _ I2 r1 r2 r q2) fun _ s3 ⟨H3,I3,q3⟩=>?_))))
 exact wpAny_release ⟨σ,H3,I3,q3⟩
def tAsg (te:TE) (g:TG) : TS:=fun D σ H=>te σ H fun x H1=>g x σ H1 D.nx
theorem zmY {tg e:Expr} {te:TE} {g:TG} (he:PE X e te) (hg:PG X tg g) (hs:swapsWithSole [tg] e pos.line X.env = pure false:=by rfl) (hw:swappedStores [tg] e X.env = pure none:=by rfl)
  (h1:(assignEach [tg] X.env).map (·.2) = [assign tg X.env]:=by rfl) : PS X (.Assign [tg] e pos) (tAsg te g):=by
 intro pins s σ H D I h
 refine wpAny_Assign_stores (thn (he pins s σ H _ I h) fun v s1 ⟨x,H1,I1,r1,q1⟩=>?_) hs hw
 rw [h1]
 exact thn (hg pins s1 σ H1 x v _ I1 r1 q1) fun _ s2 q=>q
theorem zh5 {i:Nat} {x:Str} {e:Expr} {te:TE} {pos':Pos} (hN:X.N.Nodup) (hi:X.N[i]? = some x) (hx:Loc X.env.scope x) (he:PE X e te) (hs:swapsWith e (some (.Name x pos')) pos.line X.env = pure false:=by rfl) (hf:X.fn x = true ∨ X.env.scope.names.lookup x = some .local:=by first | exact .inl rfl | exact .inr rfl | assumption) :
  PS X (.Assign [.Name x pos'] e pos) (tAsg te (zaL i)):=by
 intro pins s σ H D I h
 refine wpAny_Assign_Name (thn (he pins s σ H _ I h) fun v s1 ⟨y,H1,I1,r1,q1⟩=>?_) hs
 exact ze9 I1 hN hi hx r1 (fun s2 I2=>⟨_,H1,I2,q1⟩) hf
end
section
variable {X:Cx} {pos:Pos}
def zlk (c:TT) (tb:TS) : TS:=fun D σ H=>∃ W:Nat → St → Hp → Prop,(∃ m,W m σ H) ∧ ∀ m σ H,W m σ H →
 c σ H fun b H1=>if b = true then ∃ N:St → Hp → Prop,(∀ σ' H',N σ' H' → ∃ m',m' < m ∧ W m' σ' H') ∧ tb { D with nx:=N,ct:=N,bk:=D.nx } σ H1 else D.nx σ H1
theorem zkQ {c:Expr} {body:List Stmt} {tc:TT} {tb:TS} (hp:PassesOwn (model X.prog X.w) X.A X.env X.xe) (hc:PT X c tc) (hb:PSs X body tb) : PS X (.While c body [] pos) (zlk tc tb):=by
 intro pins s σ H D I h
 obtain ⟨W,⟨m0,w0⟩,turn⟩:=h
 refine wpAny_While (codeAny_whileLoop (fun n s'=>∃ σ' H',Inv X pins σ' H' s' ∧ W n σ' H') ?_ m0 ⟨σ,H,I,w0⟩)
 rintro n s1 ⟨σ1,H1,I1,w1⟩
 refine wpAny_passesOwn hp (thn (hc pins s1 σ1 H1 _ I1 (turn n σ1 H1 w1)) fun b s2 ⟨H2,I2,q2⟩=>?_)
 cases b with
 | true =>
  obtain ⟨N,hN,q2⟩:=q2
  rw [if_pos rfl]
  refine wpAny_passesOwn hp (thn (hb pins s2 σ1 H2 _ I2 q2) fun f s3 q3=>?_)
  cases f with
  | next =>
   obtain ⟨σ3,H3,I3,n3⟩:=q3
   obtain ⟨m',hm,w3⟩:=hN σ3 H3 n3
   exact ⟨m',hm,σ3,H3,I3,w3⟩
  | cont =>
   obtain ⟨σ3,H3,I3,n3⟩:=q3
   obtain ⟨m',hm,w3⟩:=hN σ3 H3 n3
   exact ⟨m',hm,σ3,H3,I3,w3⟩
  | brk=>exact q3
  | ret v=>exact q3
 | false =>
  rw [if_neg Bool.false_ne_true]
  exact wpAny_execs_nil ⟨σ1,H2,I2,q2⟩
end
structure It where
 go:Nat → Hp → Prop
 yld:Nat → Hp → V → Hp → Prop
 stop:Nat → Hp → Prop
def FpOk (X:Cx) (pins:List (Addr × Obj)) (H:Hp) (b:Addr) : Prop :=
 H b = none ∧ b ≠ X.env.locals ∧ b ∉ X.fs ∧ (b ∈ X.ex ∨ X.s₀.heap.objs.size ≤ b) ∧ (∀ x c,X.env.cells.lookup x = some c → c ≠ b) ∧ ∀ p ∈ X.pn ++ pins,p.1 ≠ b
theorem Inv.fpOk {X:Cx} {pins:List (Addr × Obj)} {σ:St} {H H':Hp} {s:Shared} {b:Addr} (I:Inv X pins σ H s) (hb:s.heap.objs.size ≤ b) (hn:H' b = none) : FpOk X pins H' b:=by
 refine ⟨hn,Nat.ne_of_gt (Nat.lt_of_lt_of_le I.lt hb),I.nofs hb,.inr (Nat.le_trans I.sz hb),fun x c e z=>?_,fun p hp z=>?_⟩
 ·obtain ⟨v,q⟩:=I.cell x c e
  exact absurd (Nat.lt_of_lt_of_le q.lt (by rw [z]; exact hb)) (Nat.lt_irrefl _)
 ·exact absurd (Nat.lt_of_lt_of_le (Heap.lt_size (I.pin p hp).1) (by rw [z]; exact hb)) (Nat.lt_irrefl _)
structure Turn (P:Program) (w:World) (K:PySem.W.Frag) (tg:Expr) (J:It) (fp:List Addr) (it:Addr) (tn:Nat → Heap → Prop) : Prop where
 mem:it ∈ fp
 obj:∀ i h,tn i h → ∀ b ∈ fp,∃ o,h.get? b = some o ∧ ∀ v,o.data ≠ .cell v
 keep:∀ i h h',tn i h → (∀ b ∈ fp,∀ o,h.get? b = some o → h'.get? b = some o) → tn i h'
 item:∀ (X:Cx),X.prog = P → X.w = w → X.K = K → X.calm = true → ∀ (i:Nat) (pins:List (Addr × Obj)) (s:Shared) (σ:St) (H:Hp) (E:Value → Shared → Prop),Inv X pins σ H s → (∀ b ∈ fp,FpOk X pins H b) → tn i s.heap → J.go i H →
  wpAny (model P w) X.A (pyNext (.ref it)) (fun r s1=>∃ u,r = some u ∧
   wpAny (model P w) X.A (letOwnedTupleGo tg (.ref it) u) (fun _ s2=>∃ x H',Inv X pins σ H' s2 ∧ RelV x u ∧ J.yld i H x H' ∧ tn (i + 1) s2.heap ∧ ∀ b ∈ fp,H' b = none) E s1) E s
 done:∀ (X:Cx),X.prog = P → X.w = w → X.K = K → X.calm = true → ∀ (i:Nat) (pins:List (Addr × Obj)) (s:Shared) (σ:St) (H:Hp) (E:Value → Shared → Prop),Inv X pins σ H s → (∀ b ∈ fp,FpOk X pins H b) → tn i s.heap → J.stop i H →
  wpAny (model P w) X.A (pyNext (.ref it)) (fun r s1=>r = none ∧ Inv X pins σ H s1) E s
 self:∀ (A:Around) (i:Nat) (s:Shared) (Q:Value → Shared → Prop) (E:Value → Shared → Prop),tn i s.heap → Q (.ref it) s → wpAny (model P w) A (pyIter (.ref it)) Q E s
abbrev TI:=St → Hp → (It → Hp → Prop) → Prop
def PIE (X:Cx) (pins:List (Addr × Obj)) (σ:St) (tg:Expr) (R:It → Hp → Prop) (itv:Value) (s2:Shared) : Prop :=
 ∃ (it:Addr) (fp:List Addr) (tn:Nat → Heap → Prop) (J:It) (H':Hp),itv = .ref it ∧ Inv X pins σ H' s2 ∧ Turn X.prog X.w X.K tg J fp it tn ∧ tn 0 s2.heap ∧ (∀ b ∈ fp,FpOk X pins H' b) ∧ R J H'
def PI (X:Cx) (tg iter:Expr) (wi:TI) : Prop :=
 ∀ (pins:List (Addr × Obj)) (s:Shared) (σ:St) (H:Hp) (R:It → Hp → Prop),Inv X pins σ H s → wi σ H R →
  wpAny (model X.prog X.w) X.A (eval iter X.env) (fun v s1=>wpAny (model X.prog X.w) X.A (pyIter v) (PIE X pins σ tg R) X.xe s1) X.xe s
theorem zkh {M : Model} {A : Around} {E : Value → Shared → Prop} {s : Shared} {tg : Expr} {it : Addr} {u : Value} {o : Obj} {n : String} {vs : Array Value} {Q : Unit → Shared → Prop} (ho : s.heap.get? it = some o) (hc : o.cls = .type n) (hd : o.data = .fields vs)
    (hn : ["enumerate","zip","dict_itemiterator","dict_reverseitemiterator","odict_iterator","itertools.zip_longest","itertools.pairwise"].contains n = false) (hQ:Q () s) : wpAny M A (letOwnedTupleGo tg (.ref it) u) Q E s:=by
  unfold letOwnedTupleGo
  cases tg <;> first
    | exact wpAny_pure hQ
    | (cases u <;> first
        | exact wpAny_pure hQ
        | (refine wpAny_bind (wpAny_load ho ?_)
           rw [hc,hd]
           show wpAny M A (if (["enumerate","zip","dict_itemiterator","dict_reverseitemiterator","odict_iterator","itertools.zip_longest","itertools.pairwise"].contains n && vs[0]? == some (rawInt _)) = true then _ else _) Q E s
           rw [if_neg (by intro h; rw [hn,Bool.false_and] at h; cases h)]
           exact wpAny_pure hQ))
def Itl (K:PySem.W.Frag) (a:Addr) : It :=
 ⟨fun i H=>∃ xs x,SqL K H a xs ∧ xs[i]? = some x,fun i H x H'=>H' = H ∧ ∀ xs,SqL K H a xs → xs[i]? = some x,fun i H=>∃ xs,SqL K H a xs ∧ xs.length ≤ i⟩
def Itt (K:PySem.W.Frag) (a:Addr) : It :=
 ⟨fun i H=>∃ xs x,SqT K H a xs ∧ xs[i]? = some x,fun i H x H'=>H' = H ∧ ∀ xs,SqT K H a xs → xs[i]? = some x,fun i H=>∃ xs,SqT K H a xs ∧ xs.length ≤ i⟩
def Itr (lo:Int) (n:Nat) : It:=⟨fun i _=>i < n,fun i H x H'=>H' = H ∧ x = .int (lo + i),fun i _=>n ≤ i⟩
theorem zjK {P:Program} {w:World} {K:PySem.W.Frag} {tg:Expr} (a it:Addr) : Turn P w K tg (Itl K a) [it] it (fun i h=>h.IsListIter it a i) where
 mem:=by simp
 obj:=fun i h st b hb=>by
  have e:b = it:=by simpa using hb
  subst e
  obtain ⟨o,e,c,d⟩:=st
  exact ⟨o,e,fun v z=>by rw [d] at z; cases z⟩
 keep:=fun i h h' st k=>st.at fun o e=>k it (by simp) o e
 item:=by
  intro X hP hw hK hc i pins s σ H E I hf st hg
  subst hP hw hK
  obtain ⟨xs,x,hq,hx⟩:=hg
  obtain ⟨its,rv,p,hz⟩:=I.list hq
  obtain ⟨u,hu,ru⟩:=rv.get hx
  obtain ⟨f0,f1,f2,f3,f4,f5⟩:=hf it (by simp)
  refine wpAny_pyNext_list_item st p.isList (x:=u) (by simpa using hu) fun h' st' sb=>?_
  have I1:Inv X pins σ H { s with heap:=h' }:=I.turned (t':=s.toks) (fun b o hb e=>(sb.2 b hb).trans e) f0 f1 f3 f4 f5
  obtain ⟨o,e,c,d⟩:=id st'
  exact ⟨u,rfl,zkh (s:={ s with heap:=h' }) e c d (by decide) ⟨x,H,I1,ru,⟨rfl,fun ys hy=>by rw [I.list_inj hy hq]; exact hx⟩,st',fun b hb=>(hf b hb).1⟩⟩
 done:=by
  intro X hP hw hK hc i pins s σ H E I hf st hg
  subst hP hw hK
  obtain ⟨xs,hq,hx⟩:=hg
  obtain ⟨its,rv,p,hz⟩:=I.list hq
  obtain ⟨f0,f1,f2,f3,f4,f5⟩:=hf it (by simp)
  have hl:=rv.length
  exact wpAny_pyNext_list_end (I.ok.hd hc) st p.isList (by simp; omega) fun h' eb=>⟨rfl,I.turned (t':=s.toks) (fun b o hb e=>eb b o hb e) f0 f1 f3 f4 f5⟩
 self:=fun _ _ _ _ _ st h=>wpAny_pyIter_listiter st h
theorem zhS {P:Program} {w:World} {K:PySem.W.Frag} {tg:Expr} (a it:Addr) : Turn P w K tg (Itt K a) [it] it (fun i h=>h.IsTupleIter it a i) where
 mem:=by simp
 obj:=fun i h st b hb=>by
  have e:b = it:=by simpa using hb
  subst e
  obtain ⟨o,e,c,d⟩:=st
  exact ⟨o,e,fun v z=>by rw [d] at z; cases z⟩
 keep:=fun i h h' st k=>st.at fun o e=>k it (by simp) o e
 item:=by
  intro X hP hw hK hc i pins s σ H E I hf st hg
  subst hP hw hK
  obtain ⟨xs,x,hq,hx⟩:=hg
  obtain ⟨its,rv,p,hz⟩:=I.tuple hq
  obtain ⟨u,hu,ru⟩:=rv.get hx
  obtain ⟨f0,f1,f2,f3,f4,f5⟩:=hf it (by simp)
  refine wpAny_pyNext_tuple_item st (show s.heap.IsTuple a its.toArray from p) (x:=u) (by simpa using hu) fun h' st' sb=>?_
  have I1:Inv X pins σ H { s with heap:=h' }:=I.turned (t':=s.toks) (fun b o hb e=>(sb.2 b hb).trans e) f0 f1 f3 f4 f5
  obtain ⟨o,e,c,d⟩:=id st'
  exact ⟨u,rfl,zkh (s:={ s with heap:=h' }) e c d (by decide) ⟨x,H,I1,ru,⟨rfl,fun ys hy=>by rw [I.tuple_inj hy hq]; exact hx⟩,st',fun b hb=>(hf b hb).1⟩⟩
 done:=by
  intro X hP hw hK hc i pins s σ H E I hf st hg
  subst hP hw hK
  obtain ⟨xs,hq,hx⟩:=hg
  obtain ⟨its,rv,p,hz⟩:=I.tuple hq
  obtain ⟨f0,f1,f2,f3,f4,f5⟩:=hf it (by simp)
  have hl:=rv.length
  exact wpAny_pyNext_tuple_end (I.ok.hd hc) st (show s.heap.IsTuple a its.toArray from p) (by simp; omega) fun h' eb=>⟨rfl,I.turned (t':=s.toks) (fun b o hb e=>eb b o hb e) f0 f1 f3 f4 f5⟩
 self:=fun _ _ _ _ _ st h=>wpAny_pyIter_tupleiter st h
theorem zhZ {P:Program} {w:World} {K:PySem.W.Frag} {tg:Expr} (it:Addr) (lo:Int) (n:Nat) : Turn P w K tg (Itr lo n) [it] it (fun i h=>IsRangeIter h it (lo + (i:Nat) * 1) ((n:Int) - (i:Nat)) 1) where
 mem:=by simp
 obj:=fun i h st b hb=>by
  have e:b = it:=by simpa using hb
  subst e
  exact ⟨_,st,fun v z=>by
   have z':Data.fields _ = Data.cell v:=z
   cases z'⟩
 keep:=fun i h h' st k=>k it (by simp) _ st
 item:=by
  intro X hP hw hK hc i pins s σ H E I hf st hg
  subst hP hw hK
  obtain ⟨f0,f1,f2,f3,f4,f5⟩:=hf it (by simp)
  have W:=Walks.range (prog:=X.prog) (w:=X.w) (I.ok.hd hc) it lo 1 n
  refine W.item i s _ _ hg st fun v h' tk hv st' kk=>?_
  obtain ⟨t,rfl⟩:=hv
  have I1:Inv X pins σ H { s with heap:=h',toks:=tk }:=I.turned (fun b o hb e=>kk b o (by simpa using hb) e) f0 f1 f3 f4 f5
  refine ⟨_,rfl,zkh (s:={ s with heap:=h',toks:=tk }) (n := "range_iterator") st' rfl rfl (by decide) ⟨.int (lo + i),H,I1,⟨t,?_⟩,⟨rfl,rfl⟩,st',fun b hb=>(hf b hb).1⟩⟩
  rw [Int.mul_one]
 done:=by
  intro X hP hw hK hc i pins s σ H E I hf st hg
  subst hP hw hK
  obtain ⟨f0,f1,f2,f3,f4,f5⟩:=hf it (by simp)
  exact wpAny_pyNext_range_end (I.ok.hd hc) st (by have:n ≤ i:=hg; omega) fun h' eb=>⟨rfl,I.turned (t':=s.toks) (fun b o hb e=>eb b o hb e) f0 f1 f3 f4 f5⟩
 self:=fun _ _ _ _ _ st h=>wpAny_pyIter_rangeiter st h
end L2
namespace L2
open PySem PySem.Spec PyProof.Rows
section
variable {X:Cx} {tg:Expr}
def znc (K:PySem.W.Frag) (tl:TE) : TI:=fun σ H R=>tl σ H fun x H1=>∃ a,x = .ref a ∧ (∃ xs,SqL K H1 a xs) ∧ R (Itl K a) H1
def iTup (K:PySem.W.Frag) (tl:TE) : TI:=fun σ H R=>tl σ H fun x H1=>∃ a,x = .ref a ∧ (∃ xs,SqT K H1 a xs) ∧ R (Itt K a) H1
theorem zmn {l:Expr} {tl:TE} (hl:PE X l tl) : PI X tg l (znc X.K tl):=by
 intro pins s σ H R I h
 refine thn (hl pins s σ H _ I h) fun v s1 ⟨x,H1,I1,r1,q1⟩=>?_
 obtain ⟨a,e,⟨xs,hq⟩,q⟩:=q1
 subst e
 cases r1
 obtain ⟨its,rv,p,hz⟩:=I1.list hq
 refine wpAny_pyIter_list p.isList ?_
 refine ⟨s1.heap.objs.size,[s1.heap.objs.size],_,_,H1,rfl,I1.kept (t':=s1.toks) fun b o e=>Heap.get?_push_of_some _ e,zjK a _,⟨_,Heap.get?_push_size _ rfl,rfl,rfl⟩,fun b hb=>?_,q⟩
 have e:b = s1.heap.objs.size:=by simpa using hb
 subst e
 exact I1.fpOk (Nat.le_refl _) (I1.hok.fresh (Nat.le_refl _))
theorem zoh {l:Expr} {tl:TE} (hl:PE X l tl) : PI X tg l (iTup X.K tl):=by
 intro pins s σ H R I h
 refine thn (hl pins s σ H _ I h) fun v s1 ⟨x,H1,I1,r1,q1⟩=>?_
 obtain ⟨a,e,⟨xs,hq⟩,q⟩:=q1
 subst e
 cases r1
 obtain ⟨its,rv,p,hz⟩:=I1.tuple hq
 refine wpAny_pyIter_tuple (show s1.heap.IsTuple a its.toArray from p) ?_
 refine ⟨s1.heap.objs.size,[s1.heap.objs.size],_,_,H1,rfl,I1.kept (t':=s1.toks) fun b o e=>Heap.get?_push_of_some _ e,zhS a _,⟨_,Heap.get?_push_size _ rfl,rfl,rfl⟩,fun b hb=>?_,q⟩
 have e:b = s1.heap.objs.size:=by simpa using hb
 subst e
 exact I1.fpOk (Nat.le_refl _) (I1.hok.fresh (Nat.le_refl _))
theorem zkx {pins:List (Addr × Obj)} {σ:St} {H:Hp} {s:Shared} {R:It → Hp → Prop} {E:Value → Shared → Prop} {lo hi:Int} {t u v:Tok} {tk:Nat} (I:Inv X pins σ H s) (h1 : -(2 ^ 62) ≤ lo) (h2:lo < 2 ^ 62) (h3 : -(2 ^ 62) ≤ hi) (h4:hi < 2 ^ 62)
  (q:R (Itr lo (hi - lo).toNat) H) : wpAny (model X.prog X.w) X.A (pyIter (.ref s.heap.objs.size)) (PIE X pins σ tg R) E { s with heap:=s.heap.push { cls:=.type "range", data:=.fields #[.int lo t,.int hi u,.int 1 v] },toks:=tk }:=by
 refine wpAny_pyIter_range (IsRange.new ..) (small_one h1 h2 h3 h4) ?_
 have I1:Inv X pins σ H { s with heap:=s.heap.push { cls:=.type "range", data:=.fields #[.int lo t,.int hi u,.int 1 v] },toks:=tk }:=I.kept fun b o e=>Heap.get?_push_of_some _ e
 refine ⟨(s.heap.push { cls:=.type "range", data:=.fields #[.int lo t,.int hi u,.int 1 v] }).objs.size,[(s.heap.push { cls:=.type "range", data:=.fields #[.int lo t,.int hi u,.int 1 v] }).objs.size],_,_,H,rfl,
  I1.kept (t':=tk) fun b o e=>Heap.get?_push_of_some _ e,zhZ _ lo (hi - lo).toNat,?_,fun b hb=>?_,q⟩
 ·have e1:lo + ((0:Nat) : Int) * 1 = lo:=by simp
  have e2:(((hi - lo).toNat:Nat) : Int) - ((0:Nat) : Int) = Builtin.Range.rangeSize lo hi 1:=by rw [rangeSize_one]; split <;> omega
  show IsRangeIter _ _ (lo + ((0:Nat) : Int) * 1) ((((hi - lo).toNat:Nat) : Int) - ((0:Nat) : Int)) 1
  rw [e1,e2]
  exact Heap.get?_push_size _ rfl
 ·have e:b = (s.heap.push { cls:=.type "range", data:=.fields #[.int lo t,.int hi u,.int 1 v] }).objs.size:=by simpa using hb
  subst e
  exact I1.fpOk (Nat.le_refl _) (I1.hok.fresh (Nat.le_refl _))
def zmd (ta:TA) : TI:=fun σ H R=>ta σ H fun vs H1=>∃ j:Int,vs = [.int j] ∧ -(2 ^ 62) ≤ j ∧ j < 2 ^ 62 ∧ R (Itr 0 j.toNat) H1
theorem zjC {a:Expr} {ta:TA} {p pos:Pos} (hg:Gl X "range") (hm:X.mg "range" = none) (ha:PA X [a] ta) (hs:starEach [a] X.env = [(false,eval a X.env)]:=by rfl) : PI X tg (.Call (.Name "range" p) [a] [] pos) (zmd ta):=by
 intro pins s σ H R I h
 refine Call_ (zez I hg hm boot_range (PyProof.Rows.callWith_type1 (thn (ha pos pins s σ H _ I h) fun us s1 ⟨vs,H1,I1,r1,q1⟩=>?_) hs rfl))
 obtain ⟨j,e,q1,q2,q⟩:=q1
 subst e
 cases r1 with
 | cons r rr =>
  cases rr
  obtain ⟨t,rfl⟩:=r
  exact call_range_1 (zkx I1 (by omega) (by omega) q1 q2 (by simpa using q))
def tFor (wi:TI) (g:TG) (tb:TS) : TS:=fun D σ H=>wi σ H fun J H1=>∃ W:Nat → Nat → St → Hp → Prop,(∃ m,W 0 m σ H1) ∧ ∀ i m σ H,W i m σ H →
 (J.stop i H ∧ D.nx σ H) ∨ (J.go i H ∧ ∃ N:St → Hp → Prop,(∀ σ' H',N σ' H' → ∃ m',m' < m ∧ W (i + 1) m' σ' H') ∧ ∀ x H',J.yld i H x H' → g x σ H' fun σ2 H2=>tb { D with nx:=N,ct:=N,bk:=D.nx } σ2 H2)
def zfO (fp:List Addr) (h:Heap) : List (Addr × Obj):=fp.filterMap fun b=>(h.get? b).map fun o=>(b,o)
theorem zbF {fp:List Addr} {h:Heap} {b:Addr} {o:Obj} (hb:b ∈ fp) (e:h.get? b = some o) : (b,o) ∈ zfO fp h:=List.mem_filterMap.mpr ⟨b,hb,by rw [e]; rfl⟩
theorem ziD {fp:List Addr} {h:Heap} {p:Addr × Obj} (hp:p ∈ zfO fp h) : p.1 ∈ fp ∧ h.get? p.1 = some p.2:=by
 obtain ⟨b,hb,e⟩:=List.mem_filterMap.mp hp
 cases q:h.get? b with
 | none=>rw [q] at e; cases e
 | some o =>
  rw [q] at e
  have e':(b,o) = p:=Option.some.inj e
  subst e'
  exact ⟨hb,q⟩
theorem Inv.pinned {pins:List (Addr × Obj)} {σ:St} {H:Hp} {s:Shared} {fp:List Addr} (I:Inv X pins σ H s) (hf:∀ b ∈ fp,FpOk X pins H b) (ho:∀ b ∈ fp,∃ o,s.heap.get? b = some o ∧ ∀ v,o.data ≠ .cell v) : Inv X (pins ++ zfO fp s.heap) σ H s :=
 I.pins_of fun p hp=>(List.mem_append.mp hp).elim (fun z=>I.pin p (List.mem_append_right _ z)) fun z=>by
  obtain ⟨hb,e⟩:=ziD z
  obtain ⟨f0,f1,f2,_⟩:=hf p.1 hb
  obtain ⟨o,e',d⟩:=ho p.1 hb
  rw [e] at e'; cases e'
  exact ⟨e,f0,f1,f2,d⟩
theorem Inv.unpinned {pins pl:List (Addr × Obj)} {σ:St} {H:Hp} {s:Shared} (I:Inv X (pins ++ pl) σ H s) : Inv X pins σ H s:=I.pins_of fun p hp=>I.pin p (List.mem_append_right _ (List.mem_append_left _ hp))
theorem zoa {iter:Expr} {body:List Stmt} {wi:TI} {g:TG} {tb:TS} {pos:Pos} (hp:PassesOwn (model X.prog X.w) X.A X.env X.xe) (hc:X.calm = true) (hi:PI X tg iter wi) (hg:PG X tg g) (hb:PSs X body tb)
  (hs:∀ x,foldedSetIterable iter X.env x = pure x:=by intro _; rfl) : PS X (.For tg iter body [] pos) (tFor wi g tb):=by
 intro pins s σ H D I h
 refine wpAny_For (thn (hi pins s σ H _ I h) fun v s1 h1=>thn h1 fun itv s2 h2=>?_) hs
 obtain ⟨it,fp,tn,J,H2,e,I2,T,st2,f2,W,⟨m0,w0⟩,turn⟩:=h2
 subst e
 have stat:∀ {H':Hp},(∀ b ∈ fp,H' b = none) → ∀ b ∈ fp,FpOk X pins H' b:=fun hn b hb=>⟨hn b hb,(f2 b hb).2⟩
 refine codeAny_forLoop_any (fun n s'=>∃ i σ' H',Inv X pins σ' H' s' ∧ tn i s'.heap ∧ (∀ b ∈ fp,H' b = none) ∧ W i n σ' H') ?_ m0 ⟨0,σ,H2,I2,st2,fun b hb=>(f2 b hb).1,w0⟩
 rintro n s3 ⟨i,σ3,H3,I3,st3,fr3,w3⟩
 rcases turn i n σ3 H3 w3 with ⟨stop,qn⟩ | ⟨go,N,hN,step⟩
 ·refine wpAny_passesOwn hp (thn (T.done X rfl rfl rfl hc i pins s3 σ3 H3 X.xe I3 (stat fr3) st3 stop) fun r s4 ⟨hr,I4⟩=>?_)
  subst hr
  exact wpAny_execs_nil ⟨σ3,H3,I4,qn⟩
 ·refine wpAny_passesOwn hp (thn (T.item X rfl rfl rfl hc i pins s3 σ3 H3 X.xe I3 (stat fr3) st3 go) fun r s4 ⟨u,hr,h4⟩=>?_)
  subst hr
  refine wpAny_passesOwn hp (thn h4 fun _ s5 ⟨x,H5,I5,r5,y5,st5,fr5⟩=>?_)
  have I5':=I5.pinned (stat fr5) (T.obj _ _ st5)
  refine wpAny_passesOwn hp (thn (hg _ s5 σ3 H5 x u _ I5' r5 (step x H5 y5)) fun _ s6 ⟨σ6,H6,I6,q6⟩=>?_)
  refine wpAny_passesOwn hp (thn (hb _ s6 σ6 H6 _ I6 q6) fun f s7 q7=>?_)
  have again:∀ {σ7:St} {H7:Hp},Inv X (pins ++ zfO fp s5.heap) σ7 H7 s7 → N σ7 H7 → ∃ m,m < n ∧ ∃ i σ' H',Inv X pins σ' H' s7 ∧ tn i s7.heap ∧ (∀ b ∈ fp,H' b = none) ∧ W i m σ' H':=fun {σ7 H7} I7 n7=>by
   obtain ⟨m',hm,w7⟩:=hN σ7 H7 n7
   refine ⟨m',hm,i + 1,σ7,H7,I7.unpinned,T.keep _ _ _ st5 fun b hb o e=>(I7.pin (b,o) (List.mem_append_right _ (List.mem_append_right _ (zbF hb e)))).1,fun b hb=>?_,w7⟩
   obtain ⟨o,e,d⟩:=T.obj _ _ st5 b hb
   exact (I7.pin (b,o) (List.mem_append_right _ (List.mem_append_right _ (zbF hb e)))).2.1
  cases f with
  | next=>obtain ⟨σ7,H7,I7,n7⟩:=q7; exact again I7 n7
  | cont=>obtain ⟨σ7,H7,I7,n7⟩:=q7; exact again I7 n7
  | brk=>obtain ⟨σ7,H7,I7,q7⟩:=q7; exact ⟨σ7,H7,I7.unpinned,q7⟩
  | ret v=>obtain ⟨x7,σ7,H7,I7,r7,q7⟩:=q7; exact ⟨x7,σ7,H7,I7.unpinned,r7,q7⟩
end
theorem zkM {K:PySem.W.Frag} {a:Addr} {xs:List V} {g:TG} {tb:TS} {D:Ends} {σ:St} {H:Hp} (Pv:Nat → St → Hp → Prop) (h0:Pv 0 σ H) (hl:∀ i σ H,i ≤ xs.length → Pv i σ H → SqL K H a xs)
  (hs:∀ i x σ H,xs[i]? = some x → Pv i σ H → g x σ H fun σ2 H2=>tb { D with nx:=Pv (i + 1),ct:=Pv (i + 1),bk:=D.nx } σ2 H2) (hd:∀ σ H,Pv xs.length σ H → D.nx σ H) :
  ∃ W:Nat → Nat → St → Hp → Prop,(∃ m,W 0 m σ H) ∧ ∀ i m σ H,W i m σ H →
   ((Itl K a).stop i H ∧ D.nx σ H) ∨ ((Itl K a).go i H ∧ ∃ N:St → Hp → Prop,(∀ σ' H',N σ' H' → ∃ m',m' < m ∧ W (i + 1) m' σ' H') ∧ ∀ x H',(Itl K a).yld i H x H' → g x σ H' fun σ2 H2=>tb { D with nx:=N,ct:=N,bk:=D.nx } σ2 H2):=by
 refine ⟨fun i m σ H=>m = xs.length - i ∧ i ≤ xs.length ∧ Pv i σ H,⟨xs.length,by simp,Nat.zero_le _,h0⟩,?_⟩
 rintro i m σ H ⟨rfl,hi,p⟩
 have q:=hl i σ H hi p
 by_cases hlt:i < xs.length
 ·refine .inr ⟨⟨xs,xs[i],q,by simp [hlt]⟩,Pv (i + 1),fun σ' H' p'=>⟨xs.length - (i + 1),by omega,rfl,hlt,p'⟩,fun x H' y=>?_⟩
  obtain ⟨e,y⟩:=y
  subst e
  exact hs i x σ _ (y xs q) p
 ·have e:i = xs.length:=by omega
  subst e
  exact .inl ⟨⟨xs,q,Nat.le_refl _⟩,hd σ H p⟩
theorem zjP {lo:Int} {n:Nat} {g:TG} {tb:TS} {D:Ends} {σ:St} {H:Hp} (Pv:Nat → St → Hp → Prop) (h0:Pv 0 σ H)
  (hs:∀ i σ H,i < n → Pv i σ H → g (.int (lo + i)) σ H fun σ2 H2=>tb { D with nx:=Pv (i + 1),ct:=Pv (i + 1),bk:=D.nx } σ2 H2) (hd:∀ σ H,Pv n σ H → D.nx σ H) :
  ∃ W:Nat → Nat → St → Hp → Prop,(∃ m,W 0 m σ H) ∧ ∀ i m σ H,W i m σ H →
   ((Itr lo n).stop i H ∧ D.nx σ H) ∨ ((Itr lo n).go i H ∧ ∃ N:St → Hp → Prop,(∀ σ' H',N σ' H' → ∃ m',m' < m ∧ W (i + 1) m' σ' H') ∧ ∀ x H',(Itr lo n).yld i H x H' → g x σ H' fun σ2 H2=>tb { D with nx:=N,ct:=N,bk:=D.nx } σ2 H2):=by
 refine ⟨fun i m σ H=>m = n - i ∧ i ≤ n ∧ Pv i σ H,⟨n,by simp,Nat.zero_le _,h0⟩,?_⟩
 rintro i m σ H ⟨rfl,hi,p⟩
 by_cases hlt:i < n
 ·refine .inr ⟨hlt,Pv (i + 1),fun σ' H' p'=>⟨n - (i + 1),by omega,rfl,hlt,p'⟩,fun x H' y=>?_⟩
  obtain ⟨e,y⟩:=y
  subst e y
  exact hs i σ _ hlt p
 ·have e:i = n:=by omega
  subst e
  exact .inl ⟨Nat.le_refl _,hd σ H p⟩
end L2
namespace L2
open PySem PySem.Spec PyProof.Rows
abbrev R2:=V → V → Hp → VK → Prop
def OpR (X:Cx) (f:Value → Value → Sem Value) (r:R2) : Prop :=
 ∀ (pins:List (Addr × Obj)) (s:Shared) (σ:St) (H:Hp) (x y:V) (v u:Value) (Q:VK),Inv X pins σ H s → RelV x v → RelV y u → r x y H Q →
  wpAny (model X.prog X.w) X.A (f v u) (EP X pins σ Q) X.xe s
def UnR (X:Cx) (f:Value → Sem Value) (r:V → Hp → VK → Prop) : Prop :=
 ∀ (pins:List (Addr × Obj)) (s:Shared) (σ:St) (H:Hp) (x:V) (v:Value) (Q:VK),Inv X pins σ H s → RelV x v → r x H Q →
  wpAny (model X.prog X.w) X.A (f v) (EP X pins σ Q) X.xe s
def zcZ (X:Cx) (f:Value) (r:List V → Hp → VK → Prop) : Prop :=
 ∀ (pins:List (Addr × Obj)) (s:Shared) (σ:St) (H:Hp) (xs:List V) (us:List Value) (Q:VK),Inv X pins σ H s → Vals xs us → r xs H Q →
  wpAny (model X.prog X.w) X.A (call f us) (EP X pins σ Q) X.xe s
def TruR (X:Cx) (r:V → Hp → (Bool → Hp → Prop) → Prop) : Prop :=
 ∀ (pins:List (Addr × Obj)) (s:Shared) (σ:St) (H:Hp) (x:V) (v:Value) (Q:Bool → Hp → Prop),Inv X pins σ H s → RelV x v → r x H Q →
  wpAny (model X.prog X.w) X.A (truthy v) (TP X pins σ Q) X.xe s
def tOp (r:R2) (ta tb:TE) : TE:=fun σ H Q=>ta σ H fun x H1=>tb σ H1 fun y H2=>r x y H2 Q
def tUn (r:V → Hp → VK → Prop) (ta:TE) : TE:=fun σ H Q=>ta σ H fun x H1=>r x H1 Q
def rI (C:Int → Int → Prop) (g:Int → Int → V) : R2:=fun x y H Q=>∃ i j,x = .int i ∧ y = .int j ∧ C i j ∧ Q (g i j) H
def rI0 (g:Int → Int → V) : R2:=fun x y H Q=>∃ i j,x = .int i ∧ y = .int j ∧ Q (g i j) H
def rU (g:Int → V) : V → Hp → VK → Prop:=fun x H Q=>∃ i,x = .int i ∧ Q (g i) H
section
variable {X:Cx} {a b c:Expr} {ta tb tc:TE} {pos:Pos}
theorem binT (ha:PE X a ta) (hb:PE X b tb) {pins:List (Addr × Obj)} {s:Shared} {σ:St} {H:Hp} {R:V → V → Hp → Prop} (I:Inv X pins σ H s)
  (h:ta σ H fun x H1=>tb σ H1 fun y H2=>R x y H2) {Q:Value → Shared → Prop} {f:Value → Value → Sem Value}
  (hf:∀ v u s2 x y H2,Inv X pins σ H2 s2 → RelV x v → RelV y u → R x y H2 → wpAny (model X.prog X.w) X.A (f v u) Q X.xe s2) :
  wpAny (model X.prog X.w) X.A (eval a X.env) (fun v s₁=>wpAny (model X.prog X.w) X.A (eval b X.env) (fun u s₂=>wpAny (model X.prog X.w) X.A (f v u) Q X.xe s₂) X.xe s₁) X.xe s:=by
 refine thn (ha pins s σ H _ I h) fun v s1 ⟨x,H1,I1,r1,q1⟩=>?_
 refine thn (hb pins s1 σ H1 _ I1 q1) fun u s2 ⟨y,H2,I2,r2,q2⟩=>?_
 exact hf v u s2 x y H2 I2 r1 r2 q2
theorem zoz {op:Operator} {r:R2} (ho:OpR X (binaryOp op) r) (ha:PE X a ta) (hb:PE X b tb) : PE X (.BinOp a op b pos) (tOp r ta tb):=by
 intro pins s σ H Q I h
 exact wpAny_BinOp (binT ha hb I h fun v u s2 x y H2 I2 rx ry q=>ho pins s2 σ H2 x y v u Q I2 rx ry q)
theorem zoM {op:UnaryOp} {r:V → Hp → VK → Prop} (ho:UnR X (unaryOp op) r) (ha:PE X a ta) : PE X (.UnaryOp op a pos) (tUn r ta):=by
 intro pins s σ H Q I h
 exact UnaryOp_ (thn (ha pins s σ H _ I h) fun v s1 ⟨x,H1,I1,r1,q1⟩=>ho pins s1 σ H1 x v Q I1 r1 q1)
theorem opI {f:Value → Value → Sem Value} {C:Int → Int → Prop} {g:Int → Int → Int}
  (rule:∀ (i j:Int) (t u:Tok) (s:Shared) (Q:Value → Shared → Prop) (E:Value → Shared → Prop),C i j → Q (.int (g i j) s.toks) { s with toks:=s.toks + 1 } → wpAny (model X.prog X.w) X.A (f (.int i t) (.int j u)) Q E s) :
  OpR X f (rI C fun i j=>.int (g i j)):=by
 intro pins s σ H x y v u Q I rx ry h
 obtain ⟨i,j,rfl,rfl,hc,q⟩:=h
 obtain ⟨t,rfl⟩:=rx
 obtain ⟨t',rfl⟩:=ry
 exact rule i j t t' s _ _ hc ⟨.int (g i j),H,I.tok _,⟨_,rfl⟩,q⟩
theorem opI0 {f:Value → Value → Sem Value} {g:Int → Int → Int}
  (rule:∀ (i j:Int) (t u:Tok) (s:Shared) (Q:Value → Shared → Prop) (E:Value → Shared → Prop),Q (.int (g i j) s.toks) { s with toks:=s.toks + 1 } → wpAny (model X.prog X.w) X.A (f (.int i t) (.int j u)) Q E s) :
  OpR X f (rI0 fun i j=>.int (g i j)):=by
 intro pins s σ H x y v u Q I rx ry h
 obtain ⟨i,j,rfl,rfl,q⟩:=h
 obtain ⟨t,rfl⟩:=rx
 obtain ⟨t',rfl⟩:=ry
 exact rule i j t t' s _ _ ⟨.int (g i j),H,I.tok _,⟨_,rfl⟩,q⟩
theorem opB0 {f:Value → Value → Sem Value} {g:Int → Int → Bool}
  (rule:∀ (i j:Int) (t u:Tok) (s:Shared) (Q:Value → Shared → Prop) (E:Value → Shared → Prop),Q (.bool (g i j)) s → wpAny (model X.prog X.w) X.A (f (.int i t) (.int j u)) Q E s) :
  OpR X f (rI0 fun i j=>.bl (g i j)):=by
 intro pins s σ H x y v u Q I rx ry h
 obtain ⟨i,j,rfl,rfl,q⟩:=h
 obtain ⟨t,rfl⟩:=rx
 obtain ⟨t',rfl⟩:=ry
 exact rule i j t t' s _ _ ⟨.bl (g i j),H,I,rfl,q⟩
def CDiv (i j:Int) : Prop:=0 < j ∧ j < 1073741824
def CPow (i j:Int) : Prop:=0 ≤ j ∧ j ≤ 1000000 ∧ i.natAbs < 2 ^ 64
def CMul (i j:Int) : Prop:=(-(2 ^ 64) < i ∧ i < 2 ^ 64) ∨ (-(2 ^ 64) < j ∧ j < 2 ^ 64)
theorem CMul.ok {i j:Int} (h:CMul i j) : IntMulOk i j:=by
 rcases h with ⟨h1,h2⟩ | ⟨h1,h2⟩
 ·exact .of_left (intBits_le_64 h1 h2)
 ·exact .of_right (intBits_le_64 h1 h2)
theorem zhH (k:Nat) : (0:Int) ≤ 2 ^ k:=by
 rw [two_pow_cast]
 exact Int.natCast_nonneg _
theorem zok:OpR X (binaryOp .Add) (rI0 fun i j=>.int (i + j)):=opI0 fun _ _ _ _ _ _ _ q=>add_int q
theorem znp:OpR X (binaryOp .Sub) (rI0 fun i j=>.int (i - j)):=opI0 fun _ _ _ _ _ _ _ q=>sub_int q
theorem znC:OpR X (binaryOp .Mult) (rI CMul fun i j=>.int (i * j)):=opI fun _ _ _ _ _ _ _ hc q=>mul_int q hc.ok
theorem zmw:OpR X (binaryOp .FloorDiv) (rI CDiv fun i j=>.int (i / j)):=opI fun i j _ _ _ _ _ hc q=>by
 have h1:(0:Int) < j:=hc.1
 have h2:j < 1073741824:=hc.2
 exact floordiv_int (by omega) (by rw [Int.fdiv_eq_ediv_of_nonneg i (by omega)]; exact q) (.inl (PyProof.noPylong_small (by omega)))
theorem znf:OpR X (binaryOp .Mod) (rI (fun _ j=>0 < j) fun i j=>.int (i % j)):=opI fun i j _ _ _ _ _ hc q=>by
 have h1:(0:Int) < j:=hc
 exact mod_int' (by omega) (by rw [Int.fmod_eq_emod_of_nonneg i (by omega)]; exact q)
theorem znZ:OpR X (binaryOp .Pow) (rI CPow fun i j=>.int (i ^ j.toNat)):=opI fun _ _ _ _ _ _ _ hc q=>pow_int_small hc.1 hc.2.1 hc.2.2 q
theorem znt:OpR X (binaryOp .RShift) (rI (fun _ j=>0 ≤ j) fun i j=>.int (i / 2 ^ j.toNat)):=opI fun i j _ _ _ _ _ hc q =>
 rshift_int hc (by rw [Int.fdiv_eq_ediv_of_nonneg i (zhH _)]; exact q)
theorem unI {f:Value → Sem Value} {g:Int → Int}
  (rule:∀ (i:Int) (t:Tok) (s:Shared) (Q:Value → Shared → Prop) (E:Value → Shared → Prop),Q (.int (g i) s.toks) { s with toks:=s.toks + 1 } → wpAny (model X.prog X.w) X.A (f (.int i t)) Q E s) :
  UnR X f (rU fun i=>.int (g i)):=by
 intro pins s σ H x v Q I rx h
 obtain ⟨i,rfl,q⟩:=h
 obtain ⟨t,rfl⟩:=rx
 exact rule i t s _ _ ⟨.int (g i),H,I.tok _,⟨_,rfl⟩,q⟩
theorem znQ:UnR X (unaryOp .USub) (rU fun i=>.int (-i)):=unI fun _ _ _ _ _ q=>neg_int q
end
def scal:V → V → Bool
 | .non,.non=>true | .non,.int _=>true | .int _,.non=>true | .non,.bl _=>true | .bl _,.non=>true | .non,.str _=>true | .str _,.non=>true
 | .int _,.int _=>true | .bl _,.bl _=>true | .str _,.str _=>true | .byt _,.byt _=>true
 | .int _,.str _=>true | .str _,.int _=>true | .bl _,.str _=>true | .str _,.bl _=>true
 | _,_=>false
def rEq:R2:=fun x y H Q=>scal x y = true ∧ Q (.bl (decide (x = y))) H
def rNe:R2:=fun x y H Q=>scal x y = true ∧ Q (.bl (!decide (x = y))) H
theorem zjI {i j:Int} : decide (V.int i = V.int j) = (i == j):=by
 rw [Bool.eq_iff_iff]
 simp
theorem zk6 {i j:Bool} : decide (V.bl i = V.bl j) = (i == j):=by
 rw [Bool.eq_iff_iff]
 simp
theorem zjD {i j:Str} : decide (V.str i = V.str j) = (i == j):=by
 rw [Bool.eq_iff_iff]
 simp
theorem ziN {i j:Array UInt8} : decide (V.byt i = V.byt j) = (i.toList == j.toList):=by
 rw [Bool.eq_iff_iff]
 cases i
 cases j
 simp
section
variable {X:Cx} {a b c:Expr} {ta tb tc:TE} {pos:Pos}
theorem zav {pins:List (Addr × Obj)} {σ:St} {H:Hp} {s:Shared} {Q:VK} {k k':Bool} (I:Inv X pins σ H s) (q:Q (.bl k) H) (e:k = k') : EP X pins σ Q (.bool k') s:=by
 subst e
 exact ⟨.bl k,H,I,rfl,q⟩
theorem zol:OpR X (compareOp .Eq) rEq:=by
 intro pins s σ H x y v u Q I rx ry h
 obtain ⟨hs,q⟩:=h
 cases x with
 | non =>
  cases rx
  cases y with
  | non=>cases ry; exact PySem.EqNone.eq_none_none (zav I q (by simp))
  | bl j=>cases ry; exact PySem.EqNone.eq_none_bool (zav I q (by simp))
  | int j=>obtain ⟨t',rfl⟩:=ry; exact PySem.EqNone.eq_none_int (zav I q (by simp))
  | str j=>obtain ⟨t',rfl⟩:=ry; exact PySem.EqNone.eq_none_str (zav I q (by simp))
  | _=>exact absurd (show false = true from hs) Bool.false_ne_true
 | bl i =>
  cases rx
  cases y with
  | non=>cases ry; exact PySem.EqNone.eq_bool_none (zav I q (by simp))
  | bl j=>cases ry; exact eq_bool (zav I q zk6)
  | str j=>obtain ⟨t',rfl⟩:=ry; exact PySem.EqMixed.eq_bool_str (zav I q (by simp))
  | _=>exact absurd (show false = true from hs) Bool.false_ne_true
 | int i =>
  obtain ⟨t,rfl⟩:=rx
  cases y with
  | non=>cases ry; exact PySem.EqNone.eq_int_none (zav I q (by simp))
  | int j=>obtain ⟨t',rfl⟩:=ry; exact eq_int (zav I q zjI)
  | str j=>obtain ⟨t',rfl⟩:=ry; exact PySem.EqMixed.eq_int_str (zav I q (by simp))
  | _=>exact absurd (show false = true from hs) Bool.false_ne_true
 | str i =>
  obtain ⟨t,rfl⟩:=rx
  cases y with
  | non=>cases ry; exact PySem.EqNone.eq_str_none (zav I q (by simp))
  | bl j=>cases ry; exact PySem.EqMixed.eq_str_bool (zav I q (by simp))
  | int j=>obtain ⟨t',rfl⟩:=ry; exact PySem.EqMixed.eq_str_int (zav I q (by simp))
  | str j=>obtain ⟨t',rfl⟩:=ry; exact eq_str (zav I q zjD)
  | _=>exact absurd (show false = true from hs) Bool.false_ne_true
 | byt i =>
  obtain ⟨t,rfl⟩:=rx
  cases y with
  | byt j=>obtain ⟨t',rfl⟩:=ry; exact PySem.W.eq_bytes (zav I q ziN)
  | _=>exact absurd (show false = true from hs) Bool.false_ne_true
 | _=>cases y <;> exact absurd (show false = true from hs) Bool.false_ne_true
theorem zow:OpR X (compareOp .NotEq) rNe:=by
 intro pins s σ H x y v u Q I rx ry h
 obtain ⟨hs,q⟩:=h
 cases x with
 | non =>
  cases rx
  cases y with
  | non=>cases ry; exact PySem.EqNone.ne_none_none (zav I q (by simp))
  | bl j=>cases ry; exact PySem.EqNone.ne_none_bool (zav I q (by simp))
  | int j=>obtain ⟨t',rfl⟩:=ry; exact PySem.EqNone.ne_none_int (zav I q (by simp))
  | str j=>obtain ⟨t',rfl⟩:=ry; exact PySem.EqNone.ne_none_str (zav I q (by simp))
  | _=>exact absurd (show false = true from hs) Bool.false_ne_true
 | bl i =>
  cases rx
  cases y with
  | non=>cases ry; exact PySem.EqNone.ne_bool_none (zav I q (by simp))
  | bl j=>cases ry; exact ne_bool (zav I q (congrArg not zk6))
  | str j=>obtain ⟨t',rfl⟩:=ry; exact PySem.EqMixed.ne_bool_str (zav I q (by simp))
  | _=>exact absurd (show false = true from hs) Bool.false_ne_true
 | int i =>
  obtain ⟨t,rfl⟩:=rx
  cases y with
  | non=>cases ry; exact PySem.EqNone.ne_int_none (zav I q (by simp))
  | int j=>obtain ⟨t',rfl⟩:=ry; exact ne_int (zav I q (congrArg not zjI))
  | str j=>obtain ⟨t',rfl⟩:=ry; exact PySem.EqMixed.ne_int_str (zav I q (by simp))
  | _=>exact absurd (show false = true from hs) Bool.false_ne_true
 | str i =>
  obtain ⟨t,rfl⟩:=rx
  cases y with
  | non=>cases ry; exact PySem.EqNone.ne_str_none (zav I q (by simp))
  | bl j=>cases ry; exact PySem.EqMixed.ne_str_bool (zav I q (by simp))
  | int j=>obtain ⟨t',rfl⟩:=ry; exact PySem.EqMixed.ne_str_int (zav I q (by simp))
  | str j=>obtain ⟨t',rfl⟩:=ry; exact ne_str (zav I q (congrArg not zjD))
  | _=>exact absurd (show false = true from hs) Bool.false_ne_true
 | byt i =>
  obtain ⟨t,rfl⟩:=rx
  cases y with
  | byt j=>obtain ⟨t',rfl⟩:=ry; exact PySem.W.ne_bytes (zav I q (congrArg not ziN))
  | _=>exact absurd (show false = true from hs) Bool.false_ne_true
 | _=>cases y <;> exact absurd (show false = true from hs) Bool.false_ne_true
theorem zom:OpR X (compareOp .Lt) (rI0 fun i j=>.bl (decide (i < j))):=opB0 fun _ _ _ _ _ _ _ q=>lt_int q
theorem zor:OpR X (compareOp .LtE) (rI0 fun i j=>.bl (decide (i ≤ j))):=opB0 fun _ _ _ _ _ _ _ q=>le_int q
theorem zou:OpR X (compareOp .Gt) (rI0 fun i j=>.bl (decide (j < i))):=opB0 fun _ _ _ _ _ _ _ q=>gt_int q
theorem zls (b:Expr) {op:CmpOp} (h:op ≠ .In:=by decide) (h2:op ≠ .NotIn:=by decide) : behindInMarks op b = false:=by
 have e1:(op == CmpOp.In) = false:=by cases op <;> first | rfl | exact absurd rfl h
 have e2:(op == CmpOp.NotIn) = false:=by cases op <;> first | rfl | exact absurd rfl h2
 cases b <;> simp [behindInMarks,e1,e2]
theorem zmF {op:CmpOp} {r:R2} (ho:OpR X (compareOp op) r) (ha:PE X a ta) (hb:PE X b tb) (hm:behindInMarks op b = false) : PE X (.Compare a [op] [b] pos) (tOp r ta tb):=by
 intro pins s σ H Q I h
 exact wpAny_Compare1 (binT ha hb I h fun v u s2 x y H2 I2 rx ry q=>ho pins s2 σ H2 x y v u Q I2 rx ry q) hm
def zhI (t:TE) : TT:=fun σ H Q=>t σ H fun x H'=>∃ k,x = .bl k ∧ Q k H'
theorem ziu {op:CmpOp} {r:R2} (ho:OpR X (compareOp op) r) (ha:PE X a ta) (hb:PE X b tb) (hm:behindInMarks op b = false) : PT X (.Compare a [op] [b] pos) (zhI (tOp r ta tb)):=by
 intro pins s σ H Q I h
 refine wpAny_isTrue_Compare1 (thn (ha pins s σ H _ I h) fun v s1 ⟨x,H1,I1,r1,q1⟩=>thn (hb pins s1 σ H1 _ I1 q1) fun u s2 ⟨y,H2,I2,r2,q2⟩ =>
  thn (ho pins s2 σ H2 x y v u _ I2 r1 r2 q2) fun c s3 ⟨z,H3,I3,r3,k,e,q3⟩=>?_) hm
 subst e
 cases r3
 exact wpAny_truthy_bool ⟨H3,I3,q3⟩
def TruV (K:PySem.W.Frag) (x:V) (H:Hp) (k:Bool) : Prop :=
 match x with
 | .non=>k = false
 | .bl b=>k = b
 | .int i=>k = (i != 0)
 | .str y=>y.length ≤ sizeLine ∧ k = ((y.length:Int) != 0)
 | .byt y=>y.size ≤ sizeLine ∧ k = ((y.size:Int) != 0)
 | .ref p=>(∃ xs,SqL K H p xs ∧ k = !xs.isEmpty) ∨ (∃ xs,SqT K H p xs ∧ k = !xs.isEmpty) ∨ ∃ kvs,H p = some (.dK kvs) ∧ k = !kvs.isEmpty
 | _=>False
theorem zhD {κ:Type} {kvs:List (κ × V)} {vs:List (κ × Value)} (r:KV kvs vs) : (!vs.isEmpty) = !kvs.isEmpty:=by
 cases r <;> rfl
theorem zey {xs:List V} {its:List Value} (r:Vals xs its) : (!its.toArray.isEmpty) = !xs.isEmpty:=by
 cases r <;> simp
theorem zfQ:(sizeLine:Nat) < 2 ^ 63:=by rw [sizeLine_eq]; decide
theorem zoj:TruR X (fun x H Q=>∃ k,TruV X.K x H k ∧ Q k H):=by
 intro pins s σ H x v Q I rx h
 obtain ⟨k,e,q⟩:=h
 have hl:=zfQ
 have hs:sizeLine = 16777216:=sizeLine_eq
 cases x with
 | non =>
  cases rx
  have e':k = false:=e
  subst e'
  exact truthy_none ⟨H,I,q⟩
 | bl b =>
  cases rx
  have e':k = b:=e
  subst e'
  exact wpAny_truthy_bool ⟨H,I,q⟩
 | int i =>
  obtain ⟨t,rfl⟩:=rx
  have e':k = (i != 0):=e
  subst e'
  exact PySem.P.truthy_int ⟨H,I,q⟩
 | str y =>
  obtain ⟨t,rfl⟩:=rx
  obtain ⟨hy,e'⟩ : y.length ≤ sizeLine ∧ k = ((y.length:Int) != 0):=e
  subst e'
  exact PySem.P.truthy_str (by omega) ⟨H,I.tok _,q⟩
 | byt y =>
  obtain ⟨t,rfl⟩:=rx
  obtain ⟨hy,e'⟩ : y.size ≤ sizeLine ∧ k = ((y.size:Int) != 0):=e
  subst e'
  exact PySem.W.truthy_bytes (by omega) ⟨H,I.tok _,q⟩
 | ref p =>
  cases rx
  have e':(∃ xs,SqL X.K H p xs ∧ k = !xs.isEmpty) ∨ (∃ xs,SqT X.K H p xs ∧ k = !xs.isEmpty) ∨ ∃ kvs,H p = some (.dK kvs) ∧ k = !kvs.isEmpty:=e
  rcases e' with ⟨xs,hx,e'⟩ | ⟨xs,hx,e'⟩ | ⟨kvs,hx,e'⟩
  ·subst e'
   obtain ⟨its,r,pl,hz⟩:=I.list hx
   have hlen:=r.length
   exact wpAny_truthy_list pl.isList (by simp only [List.size_toArray]; omega) ⟨H,I.tok _,by rw [zey r]; exact q⟩
  ·subst e'
   obtain ⟨its,r,pl,hz⟩:=I.tuple hx
   have hlen:=r.length
   exact truthy_tuple pl (by simp only [List.size_toArray]; omega) ⟨H,I.tok _,by rw [zey r]; exact q⟩
  ·subst e'
   obtain ⟨hz,hS,vs,r,m⟩ : kvs.length ≤ sizeLine ∧ (p == sysModules) = false ∧ ∃ vs,KV kvs vs ∧ s.heap.DictOf (zaC X.prog X.w) p vs:=I.hok p _ hx
   have hlen:kvs.length = vs.length:=Paired.length r
   exact wpAny_truthy_dict hS m (by omega) ⟨H,I.tok _,by rw [zhD r]; exact q⟩
 | _=>exact (show False from e).elim
theorem zk0 (ha:PE X a ta) (he:∀ whole,isTrue a X.env whole = (do let v ← whole; standAt a.pos; holding [v] (truthy v))) :
  PT X a (fun σ H Q=>ta σ H fun x H'=>∃ k,TruV X.K x H' k ∧ Q k H'):=by
 intro pins s σ H Q I h
 exact isTrue_plain (thn (ha pins s σ H _ I h) fun v s1 ⟨x,H1,I1,r1,q1⟩=>zoj pins s1 σ H1 x v Q I1 r1 q1) (he _)
theorem vals1 {x:V} {us:List Value} (r:Vals [x] us) : ∃ u,us = [u] ∧ RelV x u:=by
 cases r with
 | cons r1 r2=>cases r2; exact ⟨_,rfl,r1⟩
theorem vals2 {x y:V} {us:List Value} (r:Vals [x,y] us) : ∃ u w',us = [u,w'] ∧ RelV x u ∧ RelV y w':=by
 cases r with
 | cons r1 r2 =>
  cases r2 with
  | cons r3 r4=>cases r4; exact ⟨_,_,rfl,r1,r3⟩
theorem zh3 (hc:X.calm = true) : zcZ X (.builtin "max") (fun xs H Q=>∃ i j,xs = [.int i,.int j] ∧ Q (.int (if j > i then j else i)) H):=by
 intro pins s σ H xs us Q I r h
 obtain ⟨i,j,rfl,q⟩:=h
 obtain ⟨u,w',rfl,⟨t,rfl⟩,⟨t',rfl⟩⟩:=vals2 r
 refine max_two_ints (I.ok.hd hc) fun h' tk k=>⟨_,H,I.kept k,?_,q⟩
 by_cases hj:j > i
 ·rw [if_pos hj,if_pos hj]; exact ⟨_,rfl⟩
 ·rw [if_neg hj,if_neg hj]; exact ⟨_,rfl⟩
theorem zix (hc:X.calm = true) : zcZ X (.builtin "min") (fun xs H Q=>∃ i j,xs = [.int i,.int j] ∧ Q (.int (if j < i then j else i)) H):=by
 intro pins s σ H xs us Q I r h
 obtain ⟨i,j,rfl,q⟩:=h
 obtain ⟨u,w',rfl,⟨t,rfl⟩,⟨t',rfl⟩⟩:=vals2 r
 refine min_two_ints (I.ok.hd hc) fun h' tk k=>⟨_,H,I.kept k,?_,q⟩
 by_cases hj:j < i
 ·rw [if_pos hj,if_pos hj]; exact ⟨_,rfl⟩
 ·rw [if_neg hj,if_neg hj]; exact ⟨_,rfl⟩
end
end L2
namespace L2
open PySem PySem.Spec PyProof.Rows
structure ObjM (h:Heap) (x dx C:Addr) (mA:Str → Option Value) : Prop where
 obj:h.get? x = some (PySem.W.instObj C dx)
 ns:h.Ns1 dx mA
 ne:dx ≠ x
theorem zia {h:Heap} {dx:Addr} {mA:Str → Option Value} (n:h.Ns1 dx mA) : ∃ od,h.get? dx = some od ∧ ∀ name,PySem.W.lookIn name od = some (mA name):=by
 obtain ⟨o,es,ep,ho,hd,hk,_,hm⟩:=n
 refine ⟨o,ho,fun name=>?_⟩
 have e:=hm name
 unfold nsFind findBy at e
 rw [← Array.find?_toList] at e
 unfold PySem.W.lookIn
 rw [hd]
 dsimp only
 split
 ·rename_i y q
  rw [q] at e
  exact congrArg some e
 ·rename_i q
  rw [q] at e
  have a:es.toList.any (·.refKey) = false:=by
   rw [List.any_eq_false]
   intro y hy
   obtain ⟨z,t,hkey⟩:=hk y (Array.mem_toList_iff.mp hy)
   simp [DictEntry.refKey,hkey]
  have a' : ¬ es.toList.any (·.refKey) = true:=by rw [a]; exact Bool.false_ne_true
  rw [if_neg a']
  exact congrArg some e
theorem ObjM.look {h:Heap} {x dx C:Addr} {mA:Str → Option Value} (I:ObjM h x dx C mA) : ∃ od,PySem.W.InstAt h x (PySem.W.instObj C dx) C (some od) ∧ ∀ name,PySem.W.lookIn name od = some (mA name) :=
 let ⟨od,ho,hl⟩:=zia I.ns
 ⟨od,⟨I.obj,rfl,rfl,ho⟩,hl⟩
section
variable {prog:Program} {w:World} {A:Around} {E:Value → Shared → Prop} {s:Shared} {K:PySem.W.Frag} {x dx C f:Addr} {mA:Str → Option Value} {name:Str} {v:Value}
end
theorem RelO.some_of {v:V} {o:Option Value} (r:RelO (some v) o) : ∃ u,o = some u ∧ RelV v u:=by
 cases o with
 | none=>exact (show False from r).elim
 | some u=>exact ⟨u,rfl,r⟩
section
variable {P:Program} {w:World} {H H':Hp} {h h':Heap} {a C dx:Addr} {fs fs':List (Str × V)}
theorem zmp (hok:HOk P w H h) (e:H a = some (.ins C dx fs)) : ∃ mA,ObjM h a dx C mA ∧ (∀ f,RelO (fs.lookup f) (mA f)) ∧ PySem.Within mA (fs.map (·.1)) ∧ fs.length ≤ 1000 ∧ H dx = some (.own a):=by
 obtain ⟨d,z,ne,ob,mA,n,r,q⟩:=(show ObjOk P w H h a (.ins C dx fs) from hok a _ e)
 exact ⟨mA,⟨ob,n,ne⟩,r,q,z,d⟩
end
structure Cls (K:PySem.W.Frag) (C:Addr) : Prop where
 pg:PySem.W.plainGet K C Str.empty = true
 hd:PySem.W.hasDictIn K C = true
 po:PySem.W.plainOver K C = true
 sa:PySem.W.findIn K (.ref C) "__setattr__" = some (some (.builtin "object.__setattr__"))
theorem Cls.get {K:PySem.W.Frag} {C:Addr} (c:Cls K C) (f:Str) : PySem.W.plainGet K C f = true:=c.pg
section
variable {X:Cx} {pins:List (Addr × Obj)} {σ:St} {H:Hp} {s:Shared} {a C dx:Addr} {fs:List (Str × V)} {f:Str} {v:V} {A:Around} {E:Value → Shared → Prop}
end
section
variable {X:Cx} {o e value:Expr} {f:Str} {pos pos' tpos:Pos} {ta tv:TE}
end
section
variable {X:Cx} {pins:List (Addr × Obj)} {σ:St} {H:Hp} {s:Shared} {A:Around} {E:Value → Shared → Prop} {Q:Value → Shared → Prop} {c:Value} {b:Bool}
inductive TyOf (K:PySem.W.Frag) (H:Hp) : V → Value → Prop where
 | non:TyOf K H .non (.type "NoneType")
 | bl (x:Bool) : TyOf K H (.bl x) (.type "bool")
 | int (i:Int) : TyOf K H (.int i) (.type "int")
 | str (x:Str) : TyOf K H (.str x) (.type "str")
 | flt (x:UInt64) : TyOf K H (.flt x) (.type "float")
 | lst {a:Addr} {xs:List V} (e:H a = some (.lst xs)) : TyOf K H (.ref a) (.type "list")
 | frz {a:Addr} {o:Obj} {xs:List V} (e:H a = some (.frz o (.lst xs))) : TyOf K H (.ref a) (.type "list")
 | tup {a:Addr} {xs:List V} (e:H a = some (.tup xs)) : TyOf K H (.ref a) (.type "tuple")
 | dK {a:Addr} {kvs:List (Key × V)} (e:H a = some (.dK kvs)) : TyOf K H (.ref a) (.type "dict")
 | dT {a:Addr} {kvs:List (List Key × V)} (e:H a = some (.dT kvs)) : TyOf K H (.ref a) (.type "dict")
 | ins {a C dx : Addr} {fs : List (Str × V)} (e : H a = some (.ins C dx fs)) (cl : Cls K C) (ha : PySem.W.findIn K (.ref C) "__class__" = some (some (.builtin "object.__class__")))
   (hn:PySem.W.specialIn K (.builtin "object.__class__") "__get__" = some (some (.builtin "getset_descriptor.__get__"))) (htk:PySem.W.takesIn K (.builtin "object.__class__") = some true)
   (hm:PySem.W.mroIn K C (.type "object") = some true) : TyOf K H (.ref a) (.ref C)
theorem zfs {x:V} {u t:Value} (I:Inv X pins σ H s) (rx:RelV x u) (ty:TyOf X.K H x t) (e:PySem.W.kitOne X.K t c = some b) (h:∀ tk,Q (.bool b) { s with toks:=tk }) :
  wpAny (model X.prog X.w) A (call (.builtin "isinstance") [u,c]) Q E s:=by
 cases ty with
 | non=>cases (show u = Value.none from rx); exact PySem.W.kia_one PySem.W.kitx_none I.kIn True.intro e (fun z=>nomatch z) h
 | bl y=>cases (show u = Value.bool y from rx); exact PySem.W.kia_one PySem.W.kitx_bool I.kIn True.intro e (fun z=>nomatch z) h
 | int i=>obtain ⟨t,q⟩:=(show ∃ t,u = Value.int i t from rx); cases q; exact PySem.W.kia_one PySem.W.kitx_int I.kIn True.intro e (fun z=>nomatch z) h
 | str y=>obtain ⟨t,q⟩:=(show ∃ t,u = Value.str y t from rx); cases q; exact PySem.W.kia_one PySem.W.kitx_str I.kIn True.intro e (fun z=>nomatch z) h
 | flt y=>obtain ⟨t,q⟩:=(show ∃ t,u = Value.float y t from rx); cases q; exact PySem.W.kia_one PySem.W.kitx_float I.kIn True.intro e (fun z=>nomatch z) h
 | @lst a xs ea =>
  cases (show u = Value.ref a from rx)
  obtain ⟨_,_,n,_,h1⟩:=(show ObjOk X.prog X.w H s.heap a (.lst xs) from I.hok a _ ea)
  exact PySem.W.kia_one PySem.W.kitx_list I.kIn ⟨_,h1,rfl⟩ e (fun z=>nomatch z) h
 | @frz a ob xs ea =>
  cases (show u = Value.ref a from rx)
  obtain ⟨_,_,_,n,_,h1⟩:=(show ObjOk X.prog X.w H s.heap a (.frz ob (.lst xs)) from I.hok a _ ea)
  exact PySem.W.kia_one PySem.W.kitx_list I.kIn ⟨_,h1,rfl⟩ e (fun z=>nomatch z) h
 | @tup a xs ea =>
  cases (show u = Value.ref a from rx)
  obtain ⟨_,_,_,p⟩:=(show ObjOk X.prog X.w H s.heap a (.tup xs) from I.hok a _ ea)
  obtain ⟨o,h1,h2,_⟩:=p
  exact PySem.W.kia_one PySem.W.kitx_tuple I.kIn ⟨o,h1,h2⟩ e (fun z=>nomatch z) h
 | @dK a kvs ea =>
  cases (show u = Value.ref a from rx)
  obtain ⟨_,_,vs,_,p⟩:=(show ObjOk X.prog X.w H s.heap a (.dK kvs) from I.hok a _ ea)
  obtain ⟨o,es,ep,h1,h2,_⟩:=p
  exact PySem.W.kia_one PySem.W.kitx_dict I.kIn ⟨o,h1,h2.1⟩ e (fun z=>nomatch z) h
 | @dT a kvs ea =>
  cases (show u = Value.ref a from rx)
  obtain ⟨_,_,xs,_,o,es,ep,h1,h2,_⟩:=(show ObjOk X.prog X.w H s.heap a (.dT kvs) from I.hok a _ ea)
  exact PySem.W.kia_one PySem.W.kitx_dict I.kIn ⟨o,h1,h2.1⟩ e (fun z=>nomatch z) h
 | @ins a C dx fs ea cl ha hn htk hm =>
  cases (show u = Value.ref a from rx)
  obtain ⟨mA,O,_⟩:=zmp I.hok ea
  obtain ⟨od,J,_⟩:=O.look
  exact PySem.W.kia_one (PySem.W.kitx_own (cl.get _) cl.hd ha hn htk hm) I.kIn J e (fun z=>nomatch z) h
end
end L2
namespace L2
open PySem PySem.Spec PyProof.Rows
structure Room (k:Nat) (A:Around) : Prop where
 hd:A.handled = none
 dp:A.depth + 3 * k + 5 < recursionLimit
 un:A.units + 16 * k + 200 < cLine
theorem Room.mono {j k:Nat} {A:Around} (r:Room k A) (h:j ≤ k) : Room j A:=⟨r.hd,by have:=r.dp; omega,by have:=r.un; omega⟩
theorem Room.deeper {k:Nat} {A:Around} (r:Room (k + 1) A) (env:Env) : Room k (A.deeper env) :=
 ⟨r.hd,by have:=r.dp; show A.depth + 1 + 3 * k + 5 < _; omega,by have:=r.un; show A.units + 3 + 16 * k + 200 < _; omega⟩
theorem Room.in1 {k:Nat} {A:Around} (r:Room (k + 1) A) : Room k A.in1 :=
 ⟨r.hd,by have:=r.dp; show A.depth + 3 * k + 5 < _; omega,by have:=r.un; show A.units + 1 + 16 * k + 200 < _; omega⟩
theorem Room.depth {k:Nat} {A:Around} (r:Room k A) : A.depth < recursionLimit:=by have:=r.dp; omega
theorem Room.units {k:Nat} {A:Around} (r:Room k A) : A.units + 64 < cLine:=by have:=r.un; omega
def tNil:TA:=fun _ H Q=>Q [] H
def zax (ta:TE) (tr:TA) : TA:=fun σ H Q=>ta σ H fun x H1=>tr σ H1 fun xs H2=>Q (x :: xs) H2
section
variable {X:Cx} {e:Expr} {es:List Expr} {te:TE} {t:TA} {pos:Pos}
theorem zgV:PA X [] tNil:=fun _ _ _ _ H Q I h=>Calls.spliced_nil ⟨[],H,I,.nil,h⟩
theorem zea (ha:PE X e te) (hr:PA X es t) (hs:starEach (e :: es) X.env = (false,eval e X.env) :: starEach es X.env:=by rfl) : PA X (e :: es) (zax te t):=by
 intro pos pins s σ H Q I h
 rw [hs]
 show wpAny _ _ (spliced ((false,eval e X.env) :: backTo pos (starEach es X.env))) _ _ s
 refine Calls.spliced_cons (thn (ha pins s σ H _ I h) fun u s1 ⟨x,H1,I1,r1,q1⟩=>?_)
 exact thn (hr pos pins s1 σ H1 _ I1 q1) fun us s2 ⟨xs,H2,I2,r2,q2⟩=>⟨x :: xs,H2,I2,.cons r1 r2,q2⟩
def tTup (t:TA) : TE:=fun σ H Q=>t σ H fun xs H1=>xs.length ≤ sizeLine ∧ ∀ p,H1 p = none → Q (.ref p) (upd H1 p (.tup xs))
def tLst (t:TA) : TE:=fun σ H Q=>t σ H fun xs H1=>xs.length ≤ sizeLine ∧ ∀ p,H1 p = none → Q (.ref p) (upd H1 p (.lst xs))
theorem zn6 {x1} (h:PA X es t) : PE X (.Tuple es x1 pos) (tTup t):=by
 intro pins s σ H Q I hq
 refine wpAny_Tuple_spliced (thn (h pos pins s σ H _ I hq) fun us s1 ⟨xs,H1,I1,r,z,q⟩=>⟨by rw [← r.length]; exact z,?_⟩)
 have hf:H1 s1.heap.objs.size = none:=I1.hok.fresh (Nat.le_refl _)
 refine ⟨.ref s1.heap.objs.size,upd H1 s1.heap.objs.size (.tup xs),I1.laid (t':=s1.toks) (fun b u e=>Heap.get?_push_of_some _ e) (Nat.le_refl _) ?_,rfl,q _ hf⟩
 exact ⟨z,us,r,⟨_,Heap.get?_push_size _ rfl,rfl,_,rfl⟩⟩
theorem zn2 (h:PA X es t) : PE X (.List es pos) (tLst t):=by
 intro pins s σ H Q I hq
 refine wpAny_List_spliced (thn (h pos pins s σ H _ I hq) fun us s1 ⟨xs,H1,I1,r,z,q⟩=>⟨by rw [← r.length]; exact z,?_⟩)
 have hf:H1 s1.heap.objs.size = none:=I1.hok.fresh (Nat.le_refl _)
 refine ⟨.ref s1.heap.objs.size,upd H1 s1.heap.objs.size (.lst xs),I1.laid (t':=s1.toks) (fun b u e=>Heap.get?_push_of_some _ e) (Nat.le_refl _) ?_,rfl,q _ hf⟩
 exact ⟨z,us,0,r,Heap.get?_push_size _ rfl⟩
end
abbrev Sp:=List V → Hp → VK → XK → Prop
abbrev CXT:=List Env → Hp → Shared → XK → Value → Shared → Prop
structure Env0 (P:Program) (w:World) (K:PySem.W.Frag) (mg:Str → Option Value) (base:Heap) (A:Around) (outer:List Env) (s:Shared) (H:Hp) : Prop where
 frames:A.frames = some outer
 mod:Mod K mg base
 bs:∀ b o,base.get? b = some o → s.heap.get? b = some o ∧ H b = none
 bsz:base.objs.size ≤ s.heap.objs.size
 funs:s.heap.FunFrames base outer
 frf:∀ b ∈ frs outer,H b = none
 hok:HOk P w H s.heap
 bare:AllBare s.gens
def CE (outer:List Env) (P:Program) (w:World) (H:Hp) (s:Shared) (Q:VK) (u:Value) (s':Shared) : Prop :=
 ∃ v H',s'.os = s.os ∧ AllBare s'.gens ∧ Un (frs outer) [] H H' s.heap s'.heap ∧ HOk P w H' s'.heap ∧ RelV v u ∧ Q v H'
def CR (CX:CXT) (outer:List Env) (P:Program) (w:World) (H:Hp) (s:Shared) (Q:VK) (E:XK) (r:Result) (s':Shared) : Prop :=
 match r with
 | .ok (.ret u)=>CE outer P w H s Q u s'
 | .ok _=>False
 | .error e=>CX outer H s E e s'
structure FnOk (P:Program) (w:World) (K:PySem.W.Frag) (mg:Str → Option Value) (base:Heap) (CX:CXT) (k:Nat) (f:Addr) (fd:FuncData) (ps:List Str) (sp:Sp) : Prop where
 len:∀ vs H Q E,sp vs H Q E → vs.length = ps.length
 run:∀ (A:Around) (outer:List Env) (s:Shared) (H:Hp) (args:Args) (us:List Value) (vs:List V) (Q:VK) (E:XK),Room k A → Env0 P w K mg base A outer s H → BindsTo s fd args (ps.zip us) → Vals vs us → sp vs H Q E →
  codeAny (model P w) A (.call (.ref f) args) (CR CX outer P w H s Q E) s
theorem FnOk.imp {P:Program} {w:World} {K:PySem.W.Frag} {mg:Str → Option Value} {base:Heap} {CX:CXT} {k:Nat} {f:Addr} {fd:FuncData} {ps:List Str} {sp sp':Sp} (F:FnOk P w K mg base CX k f fd ps sp)
  (h:∀ vs H Q E,sp' vs H Q E → sp vs H Q E) : FnOk P w K mg base CX k f fd ps sp' :=
 ⟨fun vs H Q E q=>F.len vs H Q E (h _ _ _ _ q),fun A outer s H args us vs Q E hr he hb hv hs=>F.run A outer s H args us vs Q E hr he hb hv (h _ _ _ _ hs)⟩
section
variable {X:Cx} {pins:List (Addr × Obj)} {σ:St} {H:Hp} {s s':Shared}
theorem Inv.env0 (I:Inv X pins σ H s) : Env0 X.prog X.w X.K X.mg X.base X.A X.stack s H :=
 ⟨I.ok.frames,I.ok.mod,I.bs,Nat.le_trans I.ok.bsz I.sz,I.stack,I.stkFree,I.hok,I.bare⟩
theorem Inv.after {Q:VK} {u:Value} (I:Inv X pins σ H s) (h:CE X.stack X.prog X.w H s Q u s') : EP X pins σ Q u s':=by
 obtain ⟨v,H',os,bare,un,hok,r,q⟩:=h
 obtain ⟨hh,g,d,t,os'⟩:=s'
 obtain rfl:os' = s.os:=os
 exact ⟨v,H',I.call (h':=hh) (g':=g) (d':=d) (t':=t) (ch:=[]) un hok bare (fun b z=>absurd z (by simp)),r,q⟩
end
def zek (sp:Sp) (dvs:List V) (E:XK) (t:TA) : TE:=fun σ H Q=>t σ H fun vs H1=>sp (vs ++ dvs) H1 Q E
def Binds (K:PySem.W.Frag) (fd:FuncData) (ps:List Str) (ds:List Value) : Prop :=
 ∀ (s:Shared) (us:List Value),K.In s.heap → (us ++ ds).length = ps.length → BindsTo s fd ⟨us,[]⟩ (ps.zip (us ++ ds))
theorem Binds.all {K:PySem.W.Frag} {fd:FuncData} {ps:List Str} (h:∀ us:List Value,us.length = ps.length → bindArgs fd ⟨us,[]⟩ = pure (ps.zip us)) : Binds K fd ps []:=fun s us _ hl=>by
 rw [List.append_nil] at hl ⊢
 exact .of_eq (h us hl)
def Passes (CX:CXT) (X:Cx) (E:XK) : Prop:=∀ (pins:List (Addr × Obj)) (σ:St) (H:Hp) (s:Shared) (e:Value) (s':Shared),Inv X pins σ H s → CX X.stack H s E e s' → X.xe e s'
section
variable {X:Cx} {CX:CXT} {k:Nat} {f C:Addr} {fd:FuncData} {ps:List Str} {sp:Sp} {dvs:List V} {ds:List Value} {E:XK} {x m:Str} {p pos apos:Pos} {e o:Expr} {es:List Expr} {ta:TE} {t:TA}
theorem ziy {pins:List (Addr × Obj)} {σ:St} {H:Hp} {s:Shared} {Q:VK} {us:List Value} {vs:List V} (F:FnOk X.prog X.w X.K X.mg X.base CX k f fd ps sp) (hr:Room k X.A) (hb:Binds X.K fd ps ds) (hd:Vals dvs ds) (hx:Passes CX X E)
  (I:Inv X pins σ H s) (r:Vals vs us) (h:sp (vs ++ dvs) H Q E) : wpAny (model X.prog X.w) X.A (call (.ref f) us) (EP X pins σ Q) X.xe s:=by
 have r2:Vals (vs ++ dvs) (us ++ ds):=r.append hd
 have hl:(us ++ ds).length = ps.length:=by rw [← r2.length]; exact F.len _ _ _ _ h
 refine wpAny_call (codeAny_mono (F.run X.A X.stack s H ⟨us,[]⟩ (us ++ ds) (vs ++ dvs) Q E hr I.env0 (hb s us I.kIn hl) r2 h) fun r s' hq=>?_)
 cases r with
 | error e=>exact hx pins σ H s e s' I hq
 | ok fl =>
  cases fl with
  | ret u=>exact I.after hq
  | next=>exact False.elim hq
  | brk=>exact False.elim hq
  | cont=>exact False.elim hq
theorem zmq (F:FnOk X.prog X.w X.K X.mg X.base CX k f fd ps sp) (hr:Room k X.A) (hg:Gl X x) (hm:X.mg x = some (.ref f)) (hk:PySem.W.keepIn X.K (.ref f) = true) (hb:Binds X.K fd ps ds) (hd:Vals dvs ds) (hx:Passes CX X E)
  (ha:PA X (e :: es) t) (hdb:(x == ("__debug__" : Str)) = false:=by decide) (he:starEach (e :: es) X.env = (false,eval e X.env) :: starEach es X.env:=by rfl) (hpl:(backTo pos (starEach es X.env)).any (·.1) = false:=by rfl) :
  PE X (.Call (.Name x p) (e :: es) [] pos) (zek sp dvs E t):=by
 intro pins s σ H Q I h
 refine wpAny_Call_Name_kw (zd2 I hg hm ?_ hdb)
 refine PySem.W.callWith_K (h₀:=X.base) I.ok.mod.kin hk (thn (ha pos pins s σ H _ I h) fun us s1 ⟨vs,H1,I1,r,q⟩=>⟨I1.kIn,?_⟩) he hpl
 exact ziy F hr hb hd hx I1 r q
end
def PK (X:Cx) (kws:List Keyword) (t:TA) : Prop :=
 ∀ (pos:Pos) (pins:List (Addr × Obj)) (s:Shared) (σ:St) (H:Hp) (Q:List V → Hp → Prop),Inv X pins σ H s → t σ H Q → wpAny (model X.prog X.w) X.A (evalAll ((backToKw pos (keywordEach kws X.env)).map (·.2))) (AP X pins σ Q) X.xe s
section
variable {X:Cx} {CX:CXT} {k:Nat} {f C:Addr} {fd:FuncData} {ps ks:List Str} {sp:Sp} {E:XK} {x m:Str} {p pos apos kpos:Pos} {e o:Expr} {es:List Expr} {kws:List Keyword} {te ta:TE} {t tk:TA} {nm:Option Str}
theorem znx:PK X [] tNil:=fun _ _ _ _ H Q I h=>wpAny_evalAll_nil ⟨[],H,I,.nil,h⟩
theorem zmB (ha:PE X e te) (hr:PK X kws t) : PK X (⟨nm,e,kpos⟩ :: kws) (zax te t):=by
 intro pos pins s σ H Q I h
 show wpAny _ _ (evalAll ((do let v ← eval e X.env; standAt pos; pure v) :: (backToKw pos (keywordEach kws X.env)).map (·.2))) _ _ s
 refine wpAny_evalAll_cons (wpAny_bind (thn (ha pins s σ H _ I h) fun u s1 ⟨x,H1,I1,r1,q1⟩=>wpAny_bind (wpAny_standAt (wpAny_pure ?_))))
 exact thn (hr pos pins s1 σ H1 _ I1 q1) fun us s2 ⟨xs,H2,I2,r2,q2⟩=>⟨x :: xs,H2,I2,.cons r1 r2,q2⟩
variable {g:List Value → List Value → List Value} {gV:List V → List V → List V}
end
structure FnScope (N P:List Str) (sc:Scope) : Prop where
 kind:sc.kind = .function
 co:sc.isCoroutine = false
 gen:sc.isGenerator = false
 nd:N.Nodup
 pre:N.take P.length = P
 par:∀ x ∈ P,sc.names.lookup x = some .local ∨ sc.names.lookup x = some .cell
 nofree:∀ y ∈ sc.names,y.2 ≠ .free
theorem zfy {kindOf:Str → Option NameKind} {x:Str} : ∀ {binds:List (Str × Value)} {m:Str → Option Value},(∀ v,(x,v) ∉ binds) → bindL kindOf binds m x = m x
 | [],_,_=>rfl
 | (n, v) :: r, m, h => by
  unfold bindL
  rw [zfy fun w hw=>h w (List.mem_cons_of_mem _ hw)]
  split
  ·have:x ≠ n:=by rintro rfl; exact h v List.mem_cons_self
   simp [this]
  ·rfl
theorem zft {kindOf:Str → Option NameKind} {x:Str} : ∀ {binds:List (Str × Value)} {m:Str → Option Value},(∀ v,(x,v) ∉ binds) → bindC kindOf binds m x = m x
 | [],_,_=>rfl
 | (n, v) :: r, m, h => by
  unfold bindC
  rw [zft fun w hw=>h w (List.mem_cons_of_mem _ hw)]
  split
  ·rfl
  ·have:x ≠ n:=by rintro rfl; exact h v List.mem_cons_self
   simp [this]
theorem zfP {kindOf:Str → Option NameKind} {x:Str} {v:Value} : ∀ {P:List Str} {vs:List Value} {i:Nat} {m:Str → Option Value},P.Nodup → P[i]? = some x → vs[i]? = some v → kindOf x = some .local →
  bindL kindOf (P.zip vs) m x = some v
 | [],_,_,_,_,h,_,_=>by simp at h
 | _ :: _,[],_,_,_,_,h,_=>by simp at h
 | p :: P,w :: vs,0,m,nd,h1,h2,hk=>by
  simp at h1 h2; subst h1; subst h2
  show bindL kindOf ((p,w) :: P.zip vs) m p = _
  unfold bindL
  rw [zfy fun v hv=>(List.nodup_cons.mp nd).1 (List.of_mem_zip hv).1,if_pos hk]
  simp
 | p :: P,w :: vs,i + 1,m,nd,h1,h2,hk=>by
  show bindL kindOf ((p,w) :: P.zip vs) m x = _
  unfold bindL
  exact zfP (i:=i) (List.nodup_cons.mp nd).2 (by simpa using h1) (by simpa using h2) hk
theorem zfo {kindOf:Str → Option NameKind} {x:Str} {v:Value} : ∀ {P:List Str} {vs:List Value} {i:Nat} {m:Str → Option Value},P.Nodup → P[i]? = some x → vs[i]? = some v → kindOf x ≠ some .local →
  bindC kindOf (P.zip vs) m x = some v
 | [],_,_,_,_,h,_,_=>by simp at h
 | _ :: _,[],_,_,_,_,h,_=>by simp at h
 | p :: P,w :: vs,0,m,nd,h1,h2,hk=>by
  simp at h1 h2; subst h1; subst h2
  show bindC kindOf ((p,w) :: P.zip vs) m p = _
  unfold bindC
  rw [zft fun v hv=>(List.nodup_cons.mp nd).1 (List.of_mem_zip hv).1,if_neg hk]
  simp
 | p :: P,w :: vs,i + 1,m,nd,h1,h2,hk=>by
  show bindC kindOf ((p,w) :: P.zip vs) m x = _
  unfold bindC
  exact zfo (i:=i) (List.nodup_cons.mp nd).2 (by simpa using h1) (by simpa using h2) hk
def start (N:List Str) (vs:List V) : St:=vs.map some ++ List.replicate (N.length - vs.length) none
def cxOf (CX:CXT) (P:Program) (w:World) (K:PySem.W.Frag) (mg:Str → Option Value) (base:Heap) (N:List Str) (qual:Str) (scope:Scope) (f:Addr) (cd:Value) (A:Around) (outer:List Env) (s:Shared) (H:Hp) (E:XK) : Cx where
 prog:=P
 w:=w
 K:=K
 mg:=mg
 base:=base
 A:=A.deeper (envOfC qual scope s.heap.objs.size f cd)
 N:=N
 s₀:=s
 H₀:=H
 env:=envOfC qual scope s.heap.objs.size f cd
 outer:=outer
 stack:=envOfC qual scope s.heap.objs.size f cd :: outer
 ex:=[]
 calm:=true
 fn:=fun _=>true
 pn:=[]
 xe:=fun e s'=>wpAny (model P w) (A.deeper (envOfC qual scope s.heap.objs.size f cd)) (leaving (envOfC qual scope s.heap.objs.size f cd) e) (fun _ s''=>CX outer H s E e s'') (fun e' s''=>CX outer H s E e' s'') s'
theorem zg3 {sc:Scope} {n:Nat} {x:Str} (h:sc.names.lookup x = some .cell) : ∃ c,(cellsFrom n sc.names []).lookup x = some c:=by
 have q:=PySem.W.cellsFrom_some sc.names n [] (.inl h)
 exact Option.isSome_iff_exists.mp q
theorem zfV {CX:CXT} {P:Program} {w:World} {K:PySem.W.Frag} {mg:Str → Option Value} {base:Heap} {N ps:List Str} {qual:Str} {scope:Scope} {f:Addr} {cd:Value} {A:Around} {outer:List Env} {s s1:Shared} {H:Hp} {E:XK} {us:List Value} {vs:List V}
  (S:FnScope N ps scope) (hd:A.handled = none) (e0:Env0 P w K mg base A outer s H) (hl:vs.length = ps.length) (r:Vals vs us)
  (x:InCallC s s.heap.objs.size (bindL (envOfC qual scope s.heap.objs.size f cd).kindOf (ps.zip us) fun _=>none) (cellsFrom (s.heap.objs.size + 1) scope.names []) (bindC (envOfC qual scope s.heap.objs.size f cd).kindOf (ps.zip us) fun _=>none) s1) :
  Inv (cxOf CX P w K mg base N qual scope f cd A outer s H E) [] (start N vs) H s1:=by
 have hpl:ps.length ≤ N.length:=by have:=congrArg List.length S.pre; rw [List.length_take] at this; omega
 obtain ⟨h1,tk,rfl,hk⟩:=x.done
 have noA:∀ b:Addr,b ∉ (cxOf CX P w K mg base N qual scope f cd A outer s H E).ex:=fun b z=>absurd (show b ∈ ([] : List Addr) from z) (by simp)
 refine ⟨⟨e0.mod,S.kind,rfl,rfl,Nat.le_refl _,fun y z c h1 h2=>?_,fun y hy=>?_,fun y c _ h=>?_,fun _=>hd,Around.frames_deeper e0.frames,.inr ⟨rfl,rfl⟩,fun b z=>absurd z (noA b),e0.bs,e0.bsz,fun b _ _=>noA b,fun b z=>absurd z (noA b),e0.funs,e0.frf⟩,
  rfl,e0.bare,Un.kept hk,⟨_,x.toInCall.ns,fun i y v h1 h2 h3=>?_⟩,fun y c h=>⟨_,x.cell y c h⟩,e0.hok.fresh (Nat.le_refl _),fun y c h=>?_,fun p hp=>absurd (show p ∈ ([] : List (Addr × Obj)) from hp) (by simp),e0.hok.kept hk,?_⟩
 ·exact name_of_addr x.apart (PySem.mem_of_lookup h1) (PySem.mem_of_lookup h2)
 ·have hy:scope.names.lookup y = some .cell ∨ scope.names.lookup y = some .free:=hy
  rcases hy with hy | hy
  ·exact zg3 hy
  ·exact absurd rfl (S.nofree _ (PySem.mem_of_lookup hy))
 ·exact Nat.le_of_lt (x.above y c (PySem.mem_of_lookup h))
 ·have hi:i < vs.length:=by
   unfold start at h2
   by_cases hi:i < vs.length
   ·exact hi
   ·rw [List.getElem?_append_right (by simpa using hi)] at h2
    rw [List.getElem?_replicate] at h2
    split at h2 <;> cases h2
  have ha:vs[i]? = some v:=by
   unfold start at h2
   rw [List.getElem?_append_left (by simpa using hi),List.getElem?_map] at h2
   cases e:vs[i]? with
   | none=>rw [e] at h2; cases h2
   | some a=>rw [e] at h2; cases h2; rfl
  obtain ⟨u,hu,rv⟩:=r.get ha
  have hp:ps[i]? = some y:=by
   rw [← S.pre,List.getElem?_take_of_lt (by omega)]; exact h1
  have ndP:ps.Nodup:=by rw [← S.pre]; exact S.nd.sublist (List.take_sublist _ _)
  refine ⟨u,rv,?_⟩
  rcases S.par y (List.mem_of_getElem? hp) with k | k
  ·exact .inl ⟨k,zfP ndP hp hu k⟩
  ·obtain ⟨c,e⟩:=zg3 (n:=s.heap.objs.size + 1) k
   refine .inr ⟨.inl k,c,e,?_⟩
   have q:=x.cell y c e
   rw [zfo ndP hp hu (by show scope.names.lookup y ≠ _; rw [k]; decide)] at q
   exact q
 ·exact e0.hok.fresh (Nat.le_of_lt (x.above y c (PySem.mem_of_lookup h)))
 ·unfold start
  show _ = N.length
  rw [List.length_append,List.length_map,List.length_replicate]
  omega
theorem zmv {CX:CXT} {P:Program} {w:World} {K:PySem.W.Frag} {mg:Str → Option Value} {base:Heap} {k:Nat} {f:Addr} {name qual:Str} {params:Arguments} {body:List Stmt} {scope:Scope} {dV kV doc pm cdv ct oc:Value} {an od:Option Addr}
  {osl:Array (Option Value)} {N ps:List Str} {sp:Sp} (lk:K.lookup f = some ⟨oc,od,.func (PySem.W.fnOf name qual params body scope dV kV doc pm an cdv ct),osl⟩) (hcd:PySem.W.codeIn K cdv qual = true) (S:FnScope N ps scope)
  (len:∀ vs H Q E,sp vs H Q E → vs.length = ps.length)
  (hbody:∀ (A:Around) (outer:List Env) (s:Shared) (H:Hp) (vs:List V) (Q:VK) (E:XK),Room k (A.deeper (envOfC qual scope s.heap.objs.size f cdv)) → sp vs H Q E →
   ∃ t,PSs (cxOf CX P w K mg base N qual scope f cdv A outer s H E) body t ∧ t { nx:=fun _ H'=>Q .non H',rt:=Q } (start N vs) H) :
  FnOk P w K mg base CX (k + 1) f (PySem.W.fnOf name qual params body scope dV kV doc pm an cdv ct) ps sp:=by
 refine ⟨len,fun A outer s H args us vs Q E hr e0 hb r hsp=>?_⟩
 have hl:=len _ _ _ _ hsp
 have KX:K.In s.heap:=e0.mod.kin.keeps fun b o e=>(e0.bs b o e).1
 have lim:s.heap.NoLimit:=e0.mod.nolimit.keeps fun b o e=>(e0.bs b o e).1
 have hkind:∀ y ∈ ps.zip us,scope.names.lookup y.1 = some .local ∨ (scope.names.lookup y.1 = some .cell ∧ ((cellsFrom (s.heap.objs.size + 1) scope.names []).lookup y.1).isSome = true):=fun ⟨n,v⟩ hy=>by
  rcases S.par n (List.of_mem_zip hy).1 with q | q
  ·exact .inl q
  ·exact .inr ⟨q,PySem.W.cellsFrom_some _ _ _ (.inl q)⟩
 refine codeAny_call_function hr.depth (KX _ _ lk) rfl S.co S.gen rfl (PySem.W.codeRec_of KX hcd) (hb _ _ _ _ ?_)
 refine wpAny_newFunctionEnv_cells S.kind hkind fun env he s1 x=>?_
 subst he
 refine ⟨lim.keeps x.toInCall.keep,codeAny_func ?_⟩
 obtain ⟨t,ht,hq⟩:=hbody A outer s H vs Q E (hr.deeper _) hsp
 have I:Inv (cxOf CX P w K mg base N qual scope f cdv A outer s H E) [] (start N vs) H s1:=zfV S hr.hd e0 hl r x
 refine wpAny_mono (ht [] s1 (start N vs) H _ I hq) (fun fl s' hs=>?_) fun e s' hs=>hs
 have fin:∀ {σ':St} {H':Hp} {v:V} {u:Value},Inv (cxOf CX P w K mg base N qual scope f cdv A outer s H E) [] σ' H' s' → RelV v u → Q v H' → CE outer P w H s Q u s' :=
  fun {σ' H' v u} J rv q=>⟨v,H',J.os,J.bare,J.base,J.hok,rv,q⟩
 cases fl with
 | ret u =>
  obtain ⟨v,σ',H',J,rv,q⟩:=hs
  exact fin J rv q
 | next =>
  obtain ⟨σ',H',J,q⟩:=hs
  exact fin (v:=V.non) (u:=Value.none) J rfl q
 | brk =>
  obtain ⟨_,_,_,q⟩:=hs
  exact False.elim q
 | cont =>
  obtain ⟨_,_,_,q⟩:=hs
  exact False.elim q
end L2
namespace L2
open PySem PySem.Spec PyProof.Rows
section
variable {X:Cx} {x:Str} {p pos:Pos} {e:Expr} {es:List Expr} {t:TA} {id T:String} {r:List V → Hp → VK → Prop}
def tCB (r:List V → Hp → VK → Prop) (t:TA) : TE:=fun σ H Q=>t σ H fun vs H1=>r vs H1 Q
theorem zkk (hc:zcZ X (.builtin id) r) (hg:Gl X x) (hm:X.mg x = none) (hv:bootBuiltins x = some (.builtin id)) (ha:PA X (e :: es) t) (hn:x ≠ "__name__" := by decide) (hdb:(x == ("__debug__" : Str)) = false:=by decide)
  (he:starEach (e :: es) X.env = (false,eval e X.env) :: starEach es X.env:=by rfl) (hpl:(backTo pos (starEach es X.env)).any (·.1) = false:=by rfl) : PE X (.Call (.Name x p) (e :: es) [] pos) (tCB r t):=by
 intro pins s σ H Q I h
 refine wpAny_Call_Name_kw (zez I hg hm hv ?_ hn hdb)
 exact PyProof.Rows.callWith_builtin1 (thn (ha pos pins s σ H _ I h) fun us s1 ⟨vs,H1,I1,r1,q1⟩=>hc pins s1 σ H1 vs us Q I1 r1 q1) he hpl
theorem zjl (hc:zcZ X (.type T) r) (hg:Gl X x) (hm:X.mg x = none) (hv:bootBuiltins x = some (.type T)) (ha:PA X (e :: es) t) (hn:x ≠ "__name__" := by decide) (hdb:(x == ("__debug__" : Str)) = false:=by decide)
  (he:starEach (e :: es) X.env = (false,eval e X.env) :: starEach es X.env:=by rfl) (hpl:(backTo pos (starEach es X.env)).any (·.1) = false:=by rfl) : PE X (.Call (.Name x p) (e :: es) [] pos) (tCB r t):=by
 intro pins s σ H Q I h
 refine wpAny_Call_Name_kw (zez I hg hm hv ?_ hn hdb)
 exact PyProof.Rows.callWith_type1 (thn (ha pos pins s σ H _ I h) fun us s1 ⟨vs,H1,I1,r1,q1⟩=>hc pins s1 σ H1 vs us Q I1 r1 q1) he hpl
end
end L2
namespace HT
open PySem PyProof.Rows
section
open PySem.SeqAt
open PySem.AutoSeq1 (wpAny_loadPart')
open PySem.MeetsSeq PySem.MeetsSeq2 PySem.MeetsSeq3
end
section
variable {prog:Program} {w:World} {A:Around} {E:Value → Shared → Prop} {s:Shared}
theorem cat_tup {t b:Addr} {vs ws:List Value} {Q:Value → Shared → Prop} (ht:IsTup s.heap t vs.toArray) (hb:IsTup s.heap b ws.toArray) (hv:vs ≠ [])
  (h1:ws = [] → Q (.ref t) s) (h2:ws ≠ [] → Q (.ref s.heap.objs.size) { s with heap:=s.heap.push { cls:=.type "tuple", data:=.seq (vs ++ ws).toArray } })
  (hsz:vs.length + ws.length ≤ sizeLine) : wpAny (model prog w) A (binaryOp .Add (.ref t) (.ref b)) Q E s:=by
 obtain ⟨⟨cls,dd,data,sl⟩,ho,hc,n,hd⟩:=id ht
 obtain ⟨⟨cls2,dd2,data2,sl2⟩,ho2,hc2,n2,hd2⟩:=id hb
 simp only at hc hd hc2 hd2
 subst hc hd hc2 hd2
 have e:vs.toArray ++ ws.toArray = (vs ++ ws).toArray:=by simp
 by_cases hw:ws = []
 ·exact concat_meets ⟨_,ho,rfl⟩ ⟨_,ho2,rfl⟩ noFill_tuple_add seq_tuple_add PySem.F.slot_tuple_add PySem.F.entry_tuple_add (PySem.F.args_tuple_add_2 _ _)
   (tuple_addW1 t b vs.toArray ws.toArray n n2 dd dd2 sl sl2 (by simpa using hv) (by simp [hw])) ⟨ho,ho2,h1 hw⟩
 ·refine concat_meets ⟨_,ho,rfl⟩ ⟨_,ho2,rfl⟩ noFill_tuple_add seq_tuple_add PySem.F.slot_tuple_add PySem.F.entry_tuple_add (PySem.F.args_tuple_add_2 _ _)
   (tuple_addW2 t b vs.toArray ws.toArray n n2 dd dd2 sl sl2 (by simpa using hv) (by simpa using hw) (by rw [List.size_toArray,List.size_toArray]; exact hsz)) ⟨ho,ho2,?_⟩
  rw [e]
  exact h2 hw
def sIx (n d:Nat) : Option Int → Nat
 | none=>d
 | some v=>if v < 0 then (v + (n:Int)).toNat else min v.toNat n
theorem sIx_nat (n d k:Nat) : sIx n d (some (k:Int)) = min k n:=by
 show (if (k:Int) < 0 then ((k:Int) + (n:Int)).toNat else min (k:Int).toNat n) = min k n
 rw [if_neg (by omega),Int.toNat_natCast]
theorem zog (n d:Nat) (hd:d ≤ n) (o:Option Int) : sIx n d o ≤ n:=by
 cases o with
 | none=>exact hd
 | some v =>
  show (if v < 0 then (v + (n:Int)).toNat else min v.toNat n) ≤ n
  by_cases hv:v < 0
  ·rw [if_pos hv]; omega
  ·rw [if_neg hv]; exact Nat.min_le_right _ _
theorem zi5 (v:Int) (n d:Nat) : (if v < 0 then max (v + (n:Int)) 0 else min v (n:Int)) = ((sIx n d (some v) : Nat) : Int):=by
 show (if v < 0 then max (v + (n:Int)) 0 else min v (n:Int)) = (((if v < 0 then (v + (n:Int)).toNat else min v.toNat n) : Nat) : Int)
 by_cases hv:v < 0
 ·simp only [if_pos hv]; omega
 ·simp only [if_neg hv]; omega
theorem zhU (lo hi:Option Int) (n:Nat) : Builtin.Slice.sliceAdjust lo hi 1 (n:Int) = (((sIx n 0 lo:Nat) : Int),((sIx n n hi:Nat) : Int)):=by
 have h1 : ¬ ((1:Int) < 0):=by omega
 unfold Builtin.Slice.sliceAdjust
 simp only [h1,if_false]
 refine Prod.ext ?_ ?_
 ·cases lo with
  | none=>rfl
  | some v=>exact zi5 v n 0
 ·cases hi with
  | none=>rfl
  | some v=>exact zi5 v n n
theorem zht (i j:Nat) : Builtin.Slice.slicePlaces (i:Int) (j:Int) 1 = j - i:=by
 unfold Builtin.Slice.slicePlaces
 have h1:(1:Int) > 0:=by omega
 simp only [h1,if_true,Int.ediv_one]
 split <;> omega
theorem zet {v:Value} {o:Option Int} {Q:Option Int → Shared → Prop} (p:IsPart v o) (h:Q o s) : wpAny (model prog w) A (Builtin.Slice.slicePartIndex v) Q E s:=by
 cases p with
 | none=>exact slicePart_none h
 | int i t=>exact slicePart_int h
theorem zdl {sl:Addr} {vl vu:Value} {lo hi:Option Int} {n:Nat} {Q:Int × Int × Nat → Shared → Prop} (hs:s.heap.IsSliceOf sl vl vu .none) (pl:IsPart vl lo) (pu:IsPart vu hi)
  (h:Q (((sIx n 0 lo:Nat) : Int),1,sIx n n hi - sIx n 0 lo) s) : wpAny (model prog w) A (Builtin.Slice.sliceApplied (.ref sl) (pure (n:Int))) Q E s:=by
 obtain ⟨os,hos,hcs,hds⟩:=id hs
 unfold Builtin.Slice.sliceApplied Builtin.Slice.sliceFields
 refine wpAny_bind (wpAny_bind (wpAny_field hos hds (x:=vl) rfl (wpAny_bind (wpAny_field hos hds (x:=vu) rfl (wpAny_bind (wpAny_field hos hds (x:=.none) rfl (wpAny_pure ?_)))))))
 refine wpAny_bind (slicePart_none ?_)
 show wpAny _ _ (if ((1:Int) == 0) = true then _ else _) _ _ s
 rw [if_neg (by decide)]
 refine wpAny_bind (zet pl (wpAny_bind (zet pu (wpAny_bind (wpAny_pure ?_)))))
 show wpAny _ _ (match Builtin.Slice.sliceAdjust lo hi 1 (n:Int) with | (lo,hi)=>pure (lo,(1:Int),Builtin.Slice.slicePlaces lo hi 1)) _ _ s
 rw [zhU lo hi n]
 show wpAny _ _ (pure (((sIx n 0 lo:Nat) : Int),(1:Int),Builtin.Slice.slicePlaces ((sIx n 0 lo:Nat) : Int) ((sIx n n hi:Nat) : Int) 1)) _ _ s
 rw [zht]
 exact wpAny_pure h
theorem zj2 (xs:Array Value) (i k:Nat) : ((List.range k).filterMap fun (m:Nat)=>xs[((i:Int) + (m:Int) * 1).toNat]?).toArray = ((xs.toList.drop i).take k).toArray:=by
 have e:(fun (m:Nat)=>xs[((i:Int) + (m:Int) * 1).toNat]?) = fun m=>xs[i + m]?:=by
  funext m
  have:((i:Int) + (m:Int) * 1).toNat = i + m:=by omega
  rw [this]
 rw [e]
 have:=pick_run xs i k
 rw [List.filterMap_map] at this
 have e2:((fun x=>xs[x]?) ∘ fun x=>i + x) = fun m=>xs[i + m]?:=rfl
 rw [e2] at this
 rw [this]
theorem getItem_tuple_cut {t sl:Addr} {items:Array Value} {vl vu:Value} {lo hi:Option Int} {Q:Value → Shared → Prop} (ht:IsTup s.heap t items) (hs:s.heap.IsSliceOf sl vl vu .none) (pl:IsPart vl lo) (pu:IsPart vu hi)
  (hw : ¬ (sIx items.size 0 lo = 0 ∧ sIx items.size items.size hi = items.size))
  (h:Q (.ref s.heap.objs.size) { s with heap:=s.heap.push { cls:=.type "tuple", data:=.seq ((items.toList.drop (sIx items.size 0 lo)).take (sIx items.size items.size hi - sIx items.size 0 lo)).toArray } })
  (hsz:items.size ≤ sizeLine) : wpAny (model prog w) A (getItem (.ref t) (.ref sl)) Q E s:=by
 have htake:sizeOk (.seq ((items.toList.drop (sIx items.size 0 lo)).take (sIx items.size items.size hi - sIx items.size 0 lo)).toArray):=by
  show ((items.toList.drop (sIx items.size 0 lo)).take (sIx items.size items.size hi - sIx items.size 0 lo)).toArray.size ≤ sizeLine
  rw [List.size_toArray,List.length_take,List.length_drop,Array.length_toList]
  omega
 have hj:sIx items.size items.size hi ≤ items.size:=zog _ _ (Nat.le_refl _) hi
 obtain ⟨os,hos,hcs,hds⟩:=id hs
 have hTs:s.TypeIs (.ref sl) "slice" := ⟨os,hos,hcs⟩
 unfold getItem
 try with_reducible refine wpAny_holding ?_
 first | refine wpAny_bind (wpAny_pure ?_) | skip
 refine wpAny_bind (wpAny_sequenceKey ht.typeIs (by decide) ?_)
 refine wpAny_bind (wpAny_callSpecial?_slot (name:=Str.ofString "__getitem__") ht.typeIs PyProof.Rows.slot_tuple_getitem
  (wpAny_call_entry PyProof.Rows.slot_tuple_getitem ht.typeIs entry_tuple_getitem ?_ (args_tuple_getitem _ _)))
 show wpAny _ _ (Builtin.Tuple.tupleItemsOf (.ref t) >>= _) _ _ s
 refine wpAny_bind (tupleItemsOf_ ht ?_)
 refine wpAny_bind (wpAny_typeOf hTs ?_)
 rw [if_pos (by decide)]
 refine wpAny_bind (zdl hs pl pu ?_)
 have hno : ¬ ((((sIx items.size 0 lo:Nat) : Int) == 0 && (1:Int) == 1 && (sIx items.size items.size hi - sIx items.size 0 lo) == items.size) = true):=by
  intro q
  rw [Bool.and_eq_true,Bool.and_eq_true] at q
  have q1:((sIx items.size 0 lo:Nat) : Int) = 0:=eq_of_beq q.1.1
  have q2:sIx items.size items.size hi - sIx items.size 0 lo = items.size:=eq_of_beq q.2
  exact hw ⟨by omega,by omega⟩
 show wpAny _ _ (if (((sIx items.size 0 lo:Nat) : Int) == 0 && (1:Int) == 1 && (sIx items.size items.size hi - sIx items.size 0 lo) == items.size) = true then _ else _) _ _ s
 rw [if_neg hno,zj2]
 first
  | exact wpAny_bind (m:=Builtin.Tuple.tupleExact _) (wpAny_newObj_type (wpAny_pure ⟨_,rfl,wpAny_pure h⟩) htake)
  | exact wpAny_bind (m:=Builtin.Tuple.tupleExact _) (wpAny_newObj_type (wpAny_bind (wpAny_pure (wpAny_pure ⟨_,rfl,wpAny_pure h⟩))) htake)
  | exact wpAny_bind (wpAny_bind (m:=Builtin.Tuple.tupleExact _) (wpAny_newObj_type (wpAny_pure (wpAny_pure ⟨_,rfl,wpAny_pure h⟩)) htake))
  | exact wpAny_bind (wpAny_bind (m:=Builtin.Tuple.tupleExact _) (wpAny_newObj_type (wpAny_pure ⟨_,rfl,wpAny_pure h⟩) htake))
end
end HT
namespace L2
open PySem PySem.Spec PyProof.Rows
abbrev TO:=St → Hp → (Option Int → Hp → Prop) → Prop
def PO (X:Cx) (e:Option Expr) (t:TO) : Prop :=
 ∀ (pins:List (Addr × Obj)) (s:Shared) (σ:St) (H:Hp) (Q:Option Int → Hp → Prop),Inv X pins σ H s → t σ H Q →
  wpAny (model X.prog X.w) X.A (evalPart e X.env) (fun u s'=>∃ o H',Inv X pins σ H' s' ∧ IsPart u o ∧ Q o H') X.xe s
def zeU:TO:=fun _ H Q=>Q none H
def zki (t:TE) : TO:=fun σ H Q=>t σ H fun x H1=>∃ i,x = .int i ∧ Q (some i) H1
section
variable {X:Cx} {e:Expr} {te:TE} {lo hi:Option Expr} {tl th:TO} {pos p2:Pos}
theorem zgE:PO X none zeU:=by
 intro pins s σ H Q I h
 rw [evalPart_none]
 exact wpAny_pure ⟨none,H,I,.none,h⟩
theorem zgv (h:PE X e te) : PO X (some e) (zki te):=by
 intro pins s σ H Q I hw
 rw [evalPart_some]
 refine thn (h pins s σ H _ I hw) fun u s1 ⟨x,H1,I1,r1,q1⟩=>?_
 obtain ⟨i,rfl,q⟩:=q1
 obtain ⟨t,rfl⟩:=r1
 exact ⟨some i,H1,I1,.int i t,q⟩
def SlR (X:Cx) (r:V → Option Int → Option Int → Hp → VK → Prop) : Prop :=
 ∀ (pins:List (Addr × Obj)) (s:Shared) (σ:St) (H:Hp) (x:V) (v vl vu:Value) (lo hi:Option Int) (sl:Addr) (Q:VK),Inv X pins σ H s → RelV x v → s.heap.IsSliceOf sl vl vu .none → IsPart vl lo → IsPart vu hi → r x lo hi H Q →
  ∃ T id,typeLookup (.type T) "__getitem__" = pure (some (.builtin id)) ∧ s.TypeIs v T ∧ wpAny (model X.prog X.w) X.A (getItem v (.ref sl)) (EP X pins σ Q) X.xe s
def tSl (r:V → Option Int → Option Int → Hp → VK → Prop) (te:TE) (tl th:TO) : TE:=fun σ H Q=>te σ H fun x H1=>tl σ H1 fun l H2=>th σ H2 fun u H3=>r x l u H3 Q
theorem ze2 {r:V → Option Int → Option Int → Hp → VK → Prop} (hr:SlR X r) (he:PE X e te) (hl:PO X lo tl) (hu:PO X hi th) : PE X (.Subscript e (.Slice lo hi none p2) pos) (tSl r te tl th):=by
 intro pins s σ H Q I h
 refine Subscript_ (thn (he pins s σ H _ I h) fun v s1 ⟨x,H1,I1,r1,q1⟩=>?_)
 refine wpAny_Slice (thn (hl pins s1 σ H1 _ I1 q1) fun vl s2 ⟨l,H2,I2,pl,q2⟩=>thn (hu pins s2 σ H2 _ I2 q2) fun vu s3 ⟨u,H3,I3,pu,q3⟩=>?_)
 rw [evalPart_none]
 refine wpAny_pure ?_
 have I4:Inv X pins σ H3 { s3 with heap:=s3.heap.push { cls:=.type "slice", data:=.fields #[vl,vu,.none] } }:=I3.kept (t':=s3.toks) fun b ob q=>Heap.get?_push_of_some _ q
 obtain ⟨T,id,hT,ht,hg⟩:=hr pins { s3 with heap:=s3.heap.push { cls:=.type "slice", data:=.fields #[vl,vu,.none] } } σ H3 x v vl vu l u s3.heap.objs.size Q I4 r1 (Heap.IsSliceOf.new ..) pl pu q3
 show wpAny (model X.prog X.w) X.A (subscriptTail e (.Slice lo hi none p2) v (.ref s3.heap.objs.size)) (EP X pins σ Q) X.xe { s3 with heap:=s3.heap.push { cls:=.type "slice", data:=.fields #[vl,vu,.none] } }
 exact tail_any (ops:=[.ref s3.heap.objs.size,v]) ht hT hg (by with_unfolding_all rfl)
def cutV (xs:List V) (lo hi:Option Int) : List V:=(xs.drop (HT.sIx xs.length 0 lo)).take (HT.sIx xs.length xs.length hi - HT.sIx xs.length 0 lo)
theorem zdZ (xs:List V) (lo hi:Option Int) : (cutV xs lo hi).length ≤ xs.length:=by
 unfold cutV
 rw [List.length_take,List.length_drop]
 omega
def rSlT (K:PySem.W.Frag) : V → Option Int → Option Int → Hp → VK → Prop:=fun x lo hi H Q=>∃ a xs,x = .ref a ∧ SqT K H a xs ∧
 ¬ (HT.sIx xs.length 0 lo = 0 ∧ HT.sIx xs.length xs.length hi = xs.length) ∧ ∀ p,H p = none → Q (.ref p) (upd H p (.tup (cutV xs lo hi)))
theorem zlw:SlR X (rSlT X.K):=by
 intro pins s σ H x v vl vu lo hi sl Q I rx hs pl pu h
 obtain ⟨a,xs,rfl,hx,hw,q⟩:=h
 cases rx
 obtain ⟨its,r,ht,hz⟩:=I.tuple hx
 have hlen:its.toArray.size = xs.length:=by rw [List.size_toArray]; exact r.length.symm
 refine ⟨"tuple", _,PyProof.Rows.slot_tuple_getitem.lookup,ht.typeIs,?_⟩
 refine HT.getItem_tuple_cut ht hs pl pu (by rw [hlen]; exact hw) ?_ (by rw [hlen]; exact hz)
 rw [hlen]
 refine ⟨.ref s.heap.objs.size,_,I.laid (t':=s.toks) (o:=.tup (cutV xs lo hi)) (fun b ob q=>Heap.get?_push_of_some _ q) (Nat.le_refl _) ?_,rfl,q _ (I.hok.fresh (Nat.le_refl _))⟩
 exact ⟨Nat.le_trans (zdZ xs lo hi) hz,_,(r.drop (HT.sIx xs.length 0 lo)).take (HT.sIx xs.length xs.length hi - HT.sIx xs.length 0 lo),IsTup.new _ _⟩
def zoN (K:PySem.W.Frag) : R2:=fun x y H Q=>∃ a b xs ys,x = .ref a ∧ y = .ref b ∧ SqT K H a xs ∧ SqT K H b ys ∧ xs ≠ [] ∧ xs.length + ys.length ≤ sizeLine ∧
 (ys = [] → Q (.ref a) H) ∧ (ys ≠ [] → ∀ p,H p = none → Q (.ref p) (upd H p (.tup (xs ++ ys))))
theorem Vals.nil_iff {xs:List V} {us:List Value} (r:Vals xs us) : us = [] ↔ xs = []:=by
 cases r with
 | nil=>simp
 | cons _ _=>simp
theorem zmc:OpR X (binaryOp .Add) (zoN X.K):=by
 intro pins s σ H x y v u Q I rx ry h
 obtain ⟨a,b,xs,ys,rfl,rfl,ha,hb,hx,hz,q1,q2⟩:=h
 cases rx
 cases ry
 obtain ⟨its,r1,p1,_⟩:=I.tuple ha
 obtain ⟨its2,r2,p2,_⟩:=I.tuple hb
 refine HT.cat_tup p1 p2 (fun z=>hx (r1.nil_iff.mp z)) (fun z=>⟨.ref a,H,I,rfl,q1 (r2.nil_iff.mp z)⟩) (fun z=>?_) (by rw [← r1.length,← r2.length]; exact hz)
 refine ⟨.ref s.heap.objs.size,_,I.laid (t':=s.toks) (o:=.tup (xs ++ ys)) (fun b ob q=>Heap.get?_push_of_some _ q) (Nat.le_refl _) ?_,rfl,q2 (fun w=>z (r2.nil_iff.mpr w)) _ (I.hok.fresh (Nat.le_refl _))⟩
 exact ⟨by rw [List.length_append]; exact hz,_,r1.append r2,IsTup.new _ _⟩
end
end L2
namespace L2
open PySem PySem.Spec PyProof.Rows
def ixN (n:Nat) (i:Int) : Option Nat:=if 0 ≤ i then (if i < n then some i.toNat else none) else if -(n:Int) ≤ i then some (i + n).toNat else none
def atI {α:Type} (xs:List α) (i:Int) : Option α:=(ixN xs.length i).bind fun j=>xs[j]?
theorem zic {n:Nat} {i:Int} {j:Nat} (h:ixN n i = some j) : seqIndex? i n = some j ∧ j < n ∧ -(n:Int) ≤ i ∧ i < n:=by
 unfold ixN at h
 by_cases h0:0 ≤ i
 ·rw [if_pos h0] at h
  by_cases h1:i < n
  ·rw [if_pos h1] at h
   have e:i.toNat = j:=Option.some.inj h
   exact ⟨by rw [seqIndex_of h0 h1,e],by omega,by omega,h1⟩
  ·rw [if_neg h1] at h; cases h
 ·rw [if_neg h0] at h
  by_cases h1 : -(n:Int) ≤ i
  ·rw [if_pos h1] at h
   have e:(i + n).toNat = j:=Option.some.inj h
   exact ⟨by rw [seqIndex_neg (by omega) h1,e],by omega,h1,by omega⟩
  ·rw [if_neg h1] at h; cases h
theorem ziv {α:Type} {xs:List α} {i:Int} {v:α} (h:atI xs i = some v) : ∃ j,seqIndex? i xs.length = some j ∧ xs[j]? = some v ∧ j < xs.length ∧ -(xs.length:Int) ≤ i ∧ i < xs.length:=by
 unfold atI at h
 cases e:ixN xs.length i with
 | none=>rw [e] at h; cases h
 | some j =>
  rw [e] at h
  obtain ⟨h1,h2,h3,h4⟩:=zic e
  exact ⟨j,h1,h,h2,h3,h4⟩
theorem zaT {α:Type} {xs:List α} {j:Nat} {v:α} (h:xs[j]? = some v) : atI xs (j:Int) = some v:=by
 have hj:j < xs.length:=(List.getElem?_eq_some_iff.mp h).1
 have e:ixN xs.length (j:Int) = some j:=by
  unfold ixN
  rw [if_pos (by omega),if_pos (by omega)]; simp
 unfold atI; rw [e]; exact h
theorem zeQ {α:Type} (xs:List α) (v:α) : atI (xs ++ [v]) (-1) = some v:=by
 have hl:(xs ++ [v]).length = xs.length + 1:=by simp
 have e:ixN (xs ++ [v]).length (-1) = some xs.length:=by
  unfold ixN
  rw [hl,if_neg (by decide),if_pos (by omega)]
  congr 1
  omega
 unfold atI
 rw [e]
 show (xs ++ [v])[xs.length]? = some v
 simp
def zlJ (b:Expr) : Prop:=∀ o i,subscripted b false o i = operate [o,i] (getItem o i)
def IxR (X:Cx) (r:R2) : Prop :=
 ∀ (value slice:Expr) (pins:List (Addr × Obj)) (s:Shared) (σ:St) (H:Hp) (x y:V) (v u:Value) (Q:VK),Inv X pins σ H s → RelV x v → RelV y u → r x y H Q →
  subscripted slice false v u = operate [v,u] (getItem v u) → wpAny (model X.prog X.w) X.A (subscriptTail value slice v u) (EP X pins σ Q) X.xe s
def MtR (X:Cx) (id:String) (r:V → List V → Hp → VK → Prop) : Prop :=
 ∀ (pins:List (Addr × Obj)) (s:Shared) (σ:St) (H:Hp) (x:V) (xs:List V) (v:Value) (us:List Value) (Q:VK),Inv X pins σ H s → RelV x v → Vals xs us → r x xs H Q →
  wpAny (model X.prog X.w) X.A (call (.builtin id) (v :: us)) (EP X pins σ Q) X.xe s
section
variable {X:Cx} {a b:Expr} {ta tb:TE} {pos:Pos}
theorem zoD {r:R2} (hr:IxR X r) (ha:PE X a ta) (hb:PE X b tb) (hs:zlJ b) : PE X (.Subscript a b pos) (tOp r ta tb):=by
 intro pins s σ H Q I h
 exact Subscript_ (binT ha hb I h fun v u s2 x y H2 I2 rx ry q=>hr a b pins s2 σ H2 x y v u Q I2 rx ry q (hs _ _))
def rIxL (K:PySem.W.Frag) : R2:=fun x y H Q=>∃ p xs i v,x = .ref p ∧ y = .int i ∧ SqL K H p xs ∧ atI xs i = some v ∧ Q v H
def rIxT (K:PySem.W.Frag) : R2:=fun x y H Q=>∃ p xs i v,x = .ref p ∧ y = .int i ∧ SqT K H p xs ∧ atI xs i = some v ∧ Q v H
theorem zmJ:IxR X (rIxL X.K):=by
 intro value slice pins s σ H x y v u Q I rx ry h hs
 obtain ⟨p,xs,i,z,rfl,rfl,hq,he,q⟩:=h
 cases rx
 obtain ⟨t,rfl⟩:=ry
 obtain ⟨its,r,pl,hz⟩:=I.list hq
 obtain ⟨j,h1,h2,h3,h4,h5⟩:=ziv he
 obtain ⟨w,ew,rw'⟩:=r.get h2
 have hl:=r.length
 have hn:=zfQ
 have fin:EP X pins σ Q w s:=⟨z,H,I,rw',q⟩
 by_cases h0:0 ≤ i
 ·have hj:i.toNat = j:=by
   rw [seqIndex_of h0 h5] at h1
   exact Option.some.inj h1
  exact item_listR pl.isList h0 (by omega) (by rw [hj]; simpa using ew) fin hs
 ·have hj:(i + (its.toArray.size:Int)).toNat = j:=by
   rw [seqIndex_neg (by omega) h4] at h1
   rw [List.size_toArray,← hl]
   exact Option.some.inj h1
  exact subscriptTail_builtinR (x:=w) pl.isList.typeIs slot_list_getitem.lookup
   (wpAny_getItem_list_neg (Q:=fun r s'=>r = w ∧ EP X pins σ Q r s') pl.isList (by omega) (by rw [List.size_toArray] <;> omega) (by omega) (by rw [hj]; simpa using ew) ⟨rfl,fin⟩) hs
theorem zmX:IxR X (rIxT X.K):=by
 intro value slice pins s σ H x y v u Q I rx ry h hs
 obtain ⟨p,xs,i,z,rfl,rfl,hq,he,q⟩:=h
 cases rx
 obtain ⟨t,rfl⟩:=ry
 obtain ⟨its,r,pl,hz⟩:=I.tuple hq
 obtain ⟨j,h1,h2,h3,h4,h5⟩:=ziv he
 obtain ⟨w,ew,rw'⟩:=r.get h2
 have hl:=r.length
 have hn:=zfQ
 have fin:EP X pins σ Q w s:=⟨z,H,I,rw',q⟩
 exact subscriptTail_builtinR (x:=w) pl.typeIs slot_tuple_getitem.lookup
  (getItem_tuple (j:=j) (Q:=fun r s'=>r = w ∧ EP X pins σ Q r s') pl (by omega) (by omega) (by rw [List.size_toArray,← hl]; exact h1) (by simpa using ew) ⟨rfl,fin⟩) hs
theorem zhs (its:List Value) (n j:Nat) (u:Value) : Obj.mapSeq (·.setIfInBounds j u) { cls:=.type "list", data:=.seq its.toArray n } = { cls:=.type "list", data:=.seq (its.set j u).toArray n }:=by
 simp [Obj.mapSeq]
theorem Inv.lst {pins:List (Addr × Obj)} {σ:St} {H:Hp} {s:Shared} {p:Addr} {xs:List V} (I:Inv X pins σ H s) (h:H p = some (.lst xs)) :
  ∃ (its:List Value) (n:Nat),Vals xs its ∧ s.heap.get? p = some { cls:=.type "list", data:=.seq its.toArray n } ∧ xs.length ≤ sizeLine:=by
 obtain ⟨z,its,n,r,e⟩:=I.hok p _ h
 exact ⟨its,n,r,e,z⟩
theorem Inv.lstUpd {pins:List (Addr × Obj)} {σ:St} {H:Hp} {s:Shared} {p:Addr} {xs ys:List V} {its its':List Value} {n n':Nat} {f:Obj → Obj} (I:Inv X pins σ H s) (h:H p = some (.lst xs))
  (ho:s.heap.get? p = some { cls:=.type "list", data:=.seq its.toArray n }) (hf:f { cls:=.type "list", data:=.seq its.toArray n } = { cls:=.type "list", data:=.seq its'.toArray n' }) (r:Vals ys its') (hz:ys.length ≤ sizeLine) (t:Nat) :
  Inv X pins σ (upd H p (.lst ys)) { s with heap:=s.heap.update p f,toks:=t }:=by
 have e:(s.heap.update p f).get? p = some { cls:=.type "list", data:=.seq its'.toArray n' }:=by
  rw [Heap.get?_update_self f ho (by rw [hf] <;> rfl),hf]
 refine I.write (x:=p) (e:=p) (by rw [h]; trivial) (.inl rfl) (fun b u hb q=>(Heap.get?_update_other _ _ (Ne.symm hb)).trans q) ⟨_,e⟩ ?_
 exact ⟨hz,its',n',r,e⟩
def zkC:V → V → V → Hp → (Hp → Prop) → Prop:=fun o i v H Q=>∃ p xs k j,o = .ref p ∧ i = .int k ∧ H p = some (.lst xs) ∧ ixN xs.length k = some j ∧ Q (upd H p (.lst (xs.set j v)))
theorem set_list:PSet X zkC:=by
 intro pins s σ H o i v ov iv u Q I ro ri rv h
 obtain ⟨p,xs,k,j,rfl,rfl,hp,hj,q⟩:=h
 cases ro
 obtain ⟨t,rfl⟩:=ri
 obtain ⟨its,n,r,ho,hz⟩:=I.lst hp
 obtain ⟨h1,h2,h3,h4⟩:=zic hj
 have hl:=r.length
 have hn:=zfQ
 have I':Inv X pins σ (upd H p (.lst (xs.set j v))) { s with heap:=s.heap.update p (Obj.mapSeq (·.setIfInBounds j u)) } :=
  I.lstUpd hp ho (zhs its n j u) (r.set rv j) (by rw [List.length_set]; exact hz) s.toks
 by_cases h0:0 ≤ k
 ·have hk:k.toNat = j:=by
   rw [seqIndex_of h0 h4] at h1
   exact Option.some.inj h1
  exact PySem.W.ki_setAt ho h0 (by omega) (by rw [List.size_toArray,← hl]; exact h4) (by rw [hk]; exact ⟨_,I',q⟩)
 ·have hk:(k + (its.toArray.size:Int)).toNat = j:=by
   rw [seqIndex_neg (by omega) h3] at h1
   rw [List.size_toArray,← hl]
   exact Option.some.inj h1
  exact PySem.W.ki_setBack ho (by omega) (by rw [List.size_toArray,← hl]; exact h3) (by omega) (by rw [hk]; exact ⟨_,I',q⟩)
theorem zfZ (lo hi:Option Int) (n:Nat) : (sliceBounds lo hi none n).1 = ((HT.sIx n 0 lo:Nat) : Int) ∧ (sliceBounds lo hi none n).2.1 = ((HT.sIx n n hi:Nat) : Int) ∧ (sliceBounds lo hi none n).2.2 = 1:=by
 refine ⟨?_,?_,rfl⟩
 ·cases lo with
  | none=>simp [sliceBounds,HT.sIx]
  | some i =>
   simp only [sliceBounds,HT.sIx,Option.getD_none,show (1:Int) > 0 by decide,if_true]
   by_cases h:i < 0
   ·simp only [h,if_true] <;> omega
   ·simp only [h,if_false] <;> omega
 ·cases hi with
  | none=>simp [sliceBounds,HT.sIx]
  | some i =>
   simp only [sliceBounds,HT.sIx,Option.getD_none,show (1:Int) > 0 by decide,if_true]
   by_cases h:i < 0
   ·simp only [h,if_true] <;> omega
   ·simp only [h,if_false] <;> omega
theorem ze3 (its:List Value) (lo hi:Option Int) : slicePick its.toArray lo hi none = ((its.drop (HT.sIx its.length 0 lo)).take (HT.sIx its.length its.length hi - HT.sIx its.length 0 lo)).toArray:=by
 obtain ⟨h1,h2,h3⟩:=zfZ lo hi its.toArray.size
 unfold slicePick
 rw [h1,h2,h3]
 simp only [sliceRange_one,pick_run,List.size_toArray] <;> rfl
def rSlL (K:PySem.W.Frag) : V → Option Int → Option Int → Hp → VK → Prop:=fun x lo hi H Q=>∃ a xs,x = .ref a ∧ SqL K H a xs ∧ ∀ p,H p = none → Q (.ref p) (upd H p (.lst (cutV xs lo hi)))
theorem zlU:SlR X (rSlL X.K):=by
 intro pins s σ H x v vl vu lo hi sl Q I rx hs pl pu h
 obtain ⟨a,xs,rfl,hx,q⟩:=h
 cases rx
 obtain ⟨its,r,ht,hz⟩:=I.list hx
 have hlen:=r.length
 refine ⟨"list", _,slot_list_getitem.lookup,ht.isList.typeIs,?_⟩
 refine wpAny_getItem_list_slice ht.isList hs pl pu .none (by simp) ?_ (by rw [List.size_toArray] <;> omega)
 rw [ze3,← hlen]
 refine ⟨.ref s.heap.objs.size,_,I.laid (t':=s.toks) (o:=.lst (cutV xs lo hi)) (fun b ob q=>Heap.get?_push_of_some _ q) (Nat.le_refl _) ?_,rfl,q _ (I.hok.fresh (Nat.le_refl _))⟩
 exact ⟨Nat.le_trans (zdZ xs lo hi) hz,_,0,(r.drop (HT.sIx xs.length 0 lo)).take (HT.sIx xs.length xs.length hi - HT.sIx xs.length 0 lo),Heap.get?_push_size _ rfl⟩
def zeH:V → Bool
 | .non=>true
 | .bl _=>true
 | .int _=>true
 | .str _=>true
 | _=>false
def eqV:V → V → Bool
 | .non,.non=>true
 | .bl a,.bl b=>a == b
 | .bl a,.int b=>(if a then 1 else 0) == b
 | .int a,.bl b=>a == (if b then 1 else 0)
 | .int a,.int b=>a == b
 | .str a,.str b=>a == b
 | _,_=>false
theorem znL {A:Around} {s:Shared} {y x:V} {u v:Value} (ry:RelV y u) (rx:RelV x v) (fy:zeH y = true) (fx:zeH x = true) : SeqAt.EqAt A s u v (eqV y x):=by
 cases y with
 | non =>
  cases ry
  cases x with
  | non=>cases rx; exact SeqAt.EqAt.same _
  | bl b=>cases rx; exact SeqAt.EqAt.none_bool b
  | int b=>obtain ⟨t,rfl⟩:=rx; exact SeqAt.EqAt.none_int b t
  | str b=>obtain ⟨t,rfl⟩:=rx; exact SeqAt.EqAt.none_str b t
  | _=>exact absurd (show false = true from fx) Bool.false_ne_true
 | bl a =>
  cases ry
  cases x with
  | non=>cases rx; exact SeqAt.EqAt.bool_none a
  | bl b=>cases rx; exact SeqAt.EqAt.bool_bool a b
  | int b=>obtain ⟨t,rfl⟩:=rx; exact SeqAt.EqAt.bool_int a b t
  | str b=>obtain ⟨t,rfl⟩:=rx; exact SeqAt.EqAt.bool_str a b t
  | _=>exact absurd (show false = true from fx) Bool.false_ne_true
 | int a =>
  obtain ⟨t',rfl⟩:=ry
  cases x with
  | non=>cases rx; exact SeqAt.EqAt.int_none a t'
  | bl b=>cases rx; exact SeqAt.EqAt.int_bool a t' b
  | int b=>obtain ⟨t,rfl⟩:=rx; exact SeqAt.EqAt.int_int a t' b t
  | str b=>obtain ⟨t,rfl⟩:=rx; exact SeqAt.EqAt.int_str a t' b t
  | _=>exact absurd (show false = true from fx) Bool.false_ne_true
 | str a =>
  obtain ⟨t',rfl⟩:=ry
  cases x with
  | non=>cases rx; exact SeqAt.EqAt.str_none a t'
  | bl b=>cases rx; exact SeqAt.EqAt.str_bool a t' b
  | int b=>obtain ⟨t,rfl⟩:=rx; exact SeqAt.EqAt.str_int a t' b t
  | str b=>obtain ⟨t,rfl⟩:=rx; exact SeqAt.EqAt.str_str a t' b t
  | _=>exact absurd (show false = true from fx) Bool.false_ne_true
 | _=>exact absurd (show false = true from fy) Bool.false_ne_true
def eqU (x:V) (u:Value) : Bool:=match u with
 | .none=>eqV .non x
 | .bool b=>eqV (.bl b) x
 | .int i _=>eqV (.int i) x
 | .str z _=>eqV (.str z) x
 | _=>false
theorem zlx {x y:V} {u:Value} (r:RelV y u) (f:zeH y = true) : eqU x u = eqV y x:=by
 cases y with
 | non=>cases r; rfl
 | bl b=>cases r; rfl
 | int i=>obtain ⟨t,rfl⟩:=r; rfl
 | str z=>obtain ⟨t,rfl⟩:=r; rfl
 | _=>exact absurd (show false = true from f) Bool.false_ne_true
theorem zgj {x:V} : ∀ {xs:List V} {us:List Value},Vals xs us → xs.all zeH = true → us.any (eqU x) = xs.any fun y=>eqV y x
 | _,_,.nil,_=>rfl
 | y :: xs,u :: us,.cons r t,f=>by
  rw [List.all_cons,Bool.and_eq_true] at f
  rw [List.any_cons,List.any_cons,zlx r f.1,zgj t f.2]
theorem zfk {A:Around} {s:Shared} {x:V} {v:Value} (rx:RelV x v) (fx:zeH x = true) : ∀ {xs:List V} {us:List Value},Vals xs us → xs.all zeH = true → ∀ u ∈ us,SeqAt.EqAt A s u v (eqU x u)
 | _,_,.nil,_=>fun u hu=>by cases hu
 | y :: xs,u :: us,.cons r t,f=>fun u' hu=>by
  rw [List.all_cons,Bool.and_eq_true] at f
  rcases List.mem_cons.mp hu with rfl | hu
  ·rw [zlx r f.1]; exact znL r rx f.1 fx
  ·exact zfk rx fx t f.2 u' hu
def inV (x:V) (xs:List V) : Bool:=xs.any fun y=>eqV y x
def rIn (K:PySem.W.Frag) (neg:Bool) : R2:=fun x y H Q=>∃ p xs,y = .ref p ∧ (SqL K H p xs ∨ SqT K H p xs) ∧ zeH x = true ∧ xs.all zeH = true ∧ Q (.bl (if neg then !inV x xs else inV x xs)) H
theorem ziG:OpR X (compareOp .In) (rIn X.K false):=by
 intro pins s σ H x y v u Q I rx ry h
 obtain ⟨p,xs,rfl,hq,fx,fs,q⟩:=h
 cases ry
 rcases hq with hq | hq
 ·obtain ⟨its,r,pl,hz⟩:=I.list hq
  refine SeqAt.in_listAt (eqU x) pl.isList (fun w hw=>zfk rx fx r fs w (by simpa using hw)) ⟨.bl _,H,I,rfl,?_⟩
  rw [show its.toArray.any (eqU x) = its.any (eqU x) by simp,zgj r fs]
  exact q
 ·obtain ⟨its,r,pl,hz⟩:=I.tuple hq
  refine SeqAt.in_tupleAt (eqU x) pl (fun w hw=>zfk rx fx r fs w (by simpa using hw)) ⟨.bl _,H,I,rfl,?_⟩
  rw [show its.toArray.any (eqU x) = its.any (eqU x) by simp,zgj r fs]
  exact q
theorem zf4:zcZ X (.builtin "len") (fun xs H Q=>∃ p ys,xs = [.ref p] ∧ (SqL X.K H p ys ∨ SqT X.K H p ys) ∧ Q (.int ys.length) H):=by
 intro pins s σ H xs us Q I r h
 obtain ⟨p,ys,rfl,hq,q⟩:=h
 obtain ⟨u,rfl,rx⟩:=vals1 r
 cases rx
 have hn:=zfQ
 rcases hq with hq | hq
 ·obtain ⟨its,r',pl,hz⟩:=I.list hq
  have hlen:=r'.length
  exact Calls.call_len_list pl.isList (by simp only [List.size_toArray] <;> omega) ⟨.int ys.length,H,I.tok _,⟨s.toks + 1,by rw [List.size_toArray,hlen]⟩,q⟩
 ·obtain ⟨its,r',pl,hz⟩:=I.tuple hq
  have hlen:=r'.length
  exact len_tuple pl (by simp only [List.size_toArray] <;> omega) ⟨.int ys.length,H,I.tok _,⟨s.toks + 1,by rw [List.size_toArray,hlen]⟩,q⟩
theorem zfi:zcZ X (.type "tuple") (fun xs H Q=>∃ p ys,xs = [.ref p] ∧ ((SqL X.K H p ys ∧ ∀ l,H l = none → Q (.ref l) (upd H l (.tup ys))) ∨ (SqT X.K H p ys ∧ Q (.ref p) H))):=by
 intro pins s σ H xs us Q I r h
 obtain ⟨p,ys,rfl,h⟩:=h
 obtain ⟨u,rfl,rx⟩:=vals1 r
 cases rx
 rcases h with ⟨hq,q⟩ | ⟨hq,q⟩
 ·obtain ⟨its,r',pl,hz⟩:=I.list hq
  have hlen:=r'.length
  refine call_tuple_list pl.isList (fun h' kp=>?_) (by simp only [List.size_toArray] <;> omega)
  have I1:Inv X pins σ H { s with heap:=h' }:=I.kept (t':=s.toks) kp
  have I2:Inv X pins σ (upd H h'.objs.size (.tup ys)) { s with heap:=h'.push { cls:=.type "tuple", data:=.seq its.toArray } } :=
   I1.laid (t':=s.toks) (fun b o e=>Heap.get?_push_of_some _ e) (Nat.le_refl _) (show ObjOk X.prog X.w _ _ _ (.tup ys) from ⟨hz,its,r',IsTup.new _ _⟩)
  exact ⟨.ref h'.objs.size,_,I2,rfl,q _ (I1.hok.fresh (Nat.le_refl _))⟩
 ·obtain ⟨its,r',pl,hz⟩:=I.tuple hq
  exact call_tuple_same pl ⟨.ref p,H,I,rfl,q⟩
def tyV (K:PySem.W.Frag) (T:String) (x:V) (H:Hp) : Prop:=match x with
 | .str _=>T = "str"
 | .int _=>T = "int"
 | .ref p => (T = "list" ∧ ∃ xs, SqL K H p xs) ∨ (T = "tuple" ∧ ∃ o, K.lookup p = some o ∧ o.cls = .type "tuple" ∧ o.dict = none) ∨
   (T = "dict" ∧ ((∃ kvs,H p = some (.dK kvs)) ∨ ∃ kvs,H p = some (.dT kvs))) ∨ (T = "set" ∧ ∃ S n,H p = some (.set S n))
 | _=>False
theorem znr {pins:List (Addr × Obj)} {σ:St} {H:Hp} {s:Shared} {T:String} {x:V} {v:Value} (I:Inv X pins σ H s) (r:RelV x v) (ty:tyV X.K T x H) :
  s.TypeIs v T ∧ ∀ a,v = .ref a → ∃ ob,s.heap.get? a = some ob ∧ ob.dict = none:=by
 cases x with
 | str z =>
  obtain ⟨t,rfl⟩:=r
  cases (show T = "str" from ty)
  exact ⟨typeIs_str s z t,fun _ e=>nomatch e⟩
 | int i =>
  obtain ⟨t,rfl⟩:=r
  cases (show T = "int" from ty)
  exact ⟨typeIs_int s i t,fun _ e=>nomatch e⟩
 | ref p =>
  cases r
  rcases ty with ⟨rfl,xs,hq⟩ | ⟨rfl,o,hk,hc,hd⟩ | ⟨rfl,hk⟩ | ⟨rfl,S,n,hk⟩
  ·obtain ⟨its,_,pl,_⟩:=I.list hq
   refine ⟨pl.isList.typeIs,fun a e=>?_⟩
   cases e
   obtain ⟨o,n,e,c,hd,_⟩:=pl
   exact ⟨o,e,hd⟩
  ·refine ⟨⟨o,I.kIn p o hk,hc⟩,fun a e=>?_⟩
   cases e
   exact ⟨o,I.kIn _ o hk,hd⟩
  ·have z:∃ o,s.heap.get? p = some o ∧ o.ExactDict:=by
    rcases hk with ⟨kvs,hk⟩ | ⟨kvs,hk⟩
    ·obtain ⟨_,_,_,_,o,_,_,e,ex,_⟩:=I.hok p _ hk
     exact ⟨o,e,ex⟩
    ·obtain ⟨_,_,_,_,o,_,_,e,ex,_⟩:=I.hok p _ hk
     exact ⟨o,e,ex⟩
   obtain ⟨o,e,ex⟩:=z
   refine ⟨⟨o,e,ex.1⟩,fun a e2=>?_⟩
   cases e2
   exact ⟨o,e,ex.2.1⟩
  ·obtain ⟨o,_,_,_,e,ex,_⟩:=I.hok p _ hk
   refine ⟨⟨o,e,ex.1⟩,fun a e2=>?_⟩
   cases e2
   exact ⟨o,e,ex.2.1⟩
 | _=>exact False.elim ty
def tBM (K:PySem.W.Frag) (T:String) (r:V → List V → Hp → VK → Prop) (to:TE) (t:TA) : TE:=fun σ H Q=>to σ H fun x H1=>tyV K T x H1 ∧ t σ H1 fun xs H2=>r x xs H2 Q
variable {o e:Expr} {es:List Expr} {to:TE} {t:TA} {name:Str} {apos cpos:Pos} {T id:String} {r:V → List V → Hp → VK → Prop}
theorem zl0 (pa:PlainAttrs T) (slot:Slot T name id) (hty:typeOf (.builtin id) = pure (.type "method_descriptor")) (hm:MtR X id r) (ho:PE X o to) (ha:PA X (e :: es) t)
  (hbase:attributeBase o name X.env (eval o X.env) = eval o X.env:=by rfl)
  (hfew:((backTo cpos (starEach (e :: es) X.env)).all (fun x=>!x.1) && (backToKw cpos (keywordEach [] X.env)).all (fun x=>x.1.isSome)
   && decide ((e :: es).length + ([] : List Keyword).length + (if ([] : List Keyword).isEmpty then 0 else 1) < 30)) = true:=by rfl)
  (hline:(apos.endLine == cpos.line) = true:=by rfl) (hs:starEach (e :: es) X.env = (false,eval e X.env) :: starEach es X.env:=by rfl) (hplain:(backTo cpos (starEach es X.env)).any (·.1) = false:=by rfl) :
  PE X (.Call (.Attribute o name apos) (e :: es) [] cpos) (tBM X.K T r to t):=by
 intro pins s σ H Q I h
 refine wpAny_Call_method_late hbase hfew hline rfl (thn (ho pins s σ H _ I h) fun v s1 ⟨x,H1,I1,r1,ty,q1⟩=>?_)
 obtain ⟨h1,h2⟩:=znr I1 r1 ty
 refine ⟨T,id,pa,slot,hty,h1,h2,?_⟩
 have hA:=ha cpos pins s1 σ H1 _ I1 q1
 rw [hs] at hA ⊢
 refine Calls.callWith_builtin (by show (false || (backTo cpos (starEach es X.env)).any (·.1)) = false; rw [hplain] <;> rfl) (Calls.evalArgs_plain ?_)
 exact thn hA fun us s2 ⟨vs,H2,I2,r2,q2⟩=>hm pins s2 σ H2 x vs v us Q I2 r1 r2 q2
end
end L2
namespace L2
open PySem PySem.Spec PyProof.Rows
def MtM (X:Cx) (id:String) (r:V → List V → Hp → VK → Prop) : Prop :=
 ∀ (pins:List (Addr × Obj)) (s:Shared) (σ:St) (H:Hp) (x:V) (xs:List V) (v:Value) (us:List Value) (Q:VK),Inv X pins σ H s → RelV x v → Vals xs us → r x xs H Q →
  wpAny (model X.prog X.w) X.A (call (.builtin id) (v :: us)) (EP X pins σ Q) X.xe s
theorem Vals.one:∀ {x:V} {us:List Value},Vals [x] us → ∃ u,us = [u] ∧ RelV x u
 | _,_,.cons r .nil=>⟨_,rfl,r⟩
theorem Vals.two:∀ {x y:V} {us:List Value},Vals [x,y] us → ∃ u v,us = [u,v] ∧ RelV x u ∧ RelV y v
 | _,_,_,.cons r (.cons q .nil)=>⟨_,_,rfl,r,q⟩
theorem Vals.zero:∀ {us:List Value},Vals [] us → us = []
 | _,.nil=>rfl
theorem Vals.eraseIdx:∀ {xs:List V} {us:List Value} (i:Nat),Vals xs us → Vals (xs.eraseIdx i) (us.eraseIdx i)
 | _,_,_,.nil=>.nil
 | _,_,0,.cons _ t=>t
 | _,_,i + 1,.cons r t=>.cons r (Vals.eraseIdx i t)
theorem Vals.reverse {xs:List V} {us:List Value} (h:Vals xs us) : Vals xs.reverse us.reverse:=by
 induction h with
 | nil=>exact .nil
 | cons r t ih=>rw [List.reverse_cons,List.reverse_cons]; exact Vals.append ih (.cons r .nil)
section
variable {X:Cx} {pins:List (Addr × Obj)} {σ:St} {H:Hp} {s:Shared} {l b:Addr} {xs ys zs:List V}
theorem Inv.lset {its its':List Value} {n:Nat} {f:Array Value → Array Value} {t':Nat} (I:Inv X pins σ H s) (hH:H l = some (.lst xs))
  (e:s.heap.get? l = some { cls:=.type "list", data:=.seq its.toArray n }) (hf:f its.toArray = its'.toArray) (hv:Vals ys its') (hz:ys.length ≤ sizeLine) :
  Inv X pins σ (upd H l (.lst ys)) { s with heap:=s.heap.update l (Obj.mapSeq f),toks:=t' }:=by
 have q:=PySem.IsL.update e f
 rw [hf] at q
 refine I.write (x:=l) (e:=l) (by rw [hH]; exact trivial) (.inl rfl) (fun b' u hb hu=>(Heap.get?_update_other s.heap (Obj.mapSeq f) (Ne.symm hb)).trans hu) ⟨_,q⟩ ?_
 exact ⟨hz,its',_,hv,q⟩
theorem Inv.lnew {its:List Value} {t':Nat} (I:Inv X pins σ H s) (hv:Vals ys its) (hz:ys.length ≤ sizeLine) :
  Inv X pins σ (upd H s.heap.objs.size (.lst ys)) { s with heap:=s.heap.push { cls:=.type "list", data:=.seq its.toArray },toks:=t' } :=
 I.laid (fun _ _ q=>Heap.get?_push_of_some _ q) (Nat.le_refl _) ⟨hz,its,0,hv,Heap.get?_push_size _ rfl⟩
theorem Inv.fresh (I:Inv X pins σ H s) : H s.heap.objs.size = none:=I.hok.fresh (Nat.le_refl _)
theorem Inv.lstM (I:Inv X pins σ H s) (hH:H l = some (.lst xs)) : xs.length ≤ sizeLine ∧ ∃ (its:List Value) (n:Nat),Vals xs its ∧ xs.length = its.length ∧ s.heap.get? l = some { cls:=.type "list", data:=.seq its.toArray n }:=by
 obtain ⟨z,its,n,r,e⟩:=I.hok l _ hH
 exact ⟨z,its,n,r,r.length,e⟩
theorem zkX {n:Nat} (h:n ≤ sizeLine) : Builtin.List.listTooLong n = false:=by
 unfold Builtin.List.listTooLong
 exact decide_eq_false (by omega)
end
section
variable {X:Cx}
def zcq:V → List V → Hp → VK → Prop:=fun x vs H Q=>∃ l xs y,x = .ref l ∧ vs = [y] ∧ H l = some (.lst xs) ∧ xs.length < sizeLine ∧ Q .non (upd H l (.lst (xs ++ [y])))
theorem zga:MtM X "list.append" zcq:=by
 intro pins s σ H x vs v us Q I rx rv h
 obtain ⟨l,xs,y,rfl,rfl,hH,hz,q⟩:=h
 cases rx
 obtain ⟨u,rfl,ru⟩:=rv.one
 obtain ⟨z,its,n,r,hl,e⟩:=I.lstM hH
 refine call_meets F.slot_list_append ⟨_,e,rfl⟩ F.entry_list_append (F.args_list_append_2 _ _) (PySem.list_append l its.toArray n u (by rw [List.size_toArray]; omega)) ⟨e,?_⟩
 refine ⟨.non,_,I.lset (its':=its ++ [u]) hH e (by simp) (r.append (.cons ru .nil)) ?_,rfl,q⟩
 rw [List.length_append,List.length_singleton]
 omega
def zjO:V → List V → Hp → VK → Prop:=fun x vs H Q=>∃ l b xs zs,x = .ref l ∧ vs = [.ref b] ∧ H l = some (.lst xs) ∧ H b = some (.lst zs) ∧ xs.length + zs.length ≤ sizeLine ∧ Q .non (upd H l (.lst (xs ++ zs)))
theorem zih:MtM X "list.extend" zjO:=by
 intro pins s σ H x vs v us Q I rx rv h
 obtain ⟨l,b,xs,zs,rfl,rfl,hH,hB,hz,q⟩:=h
 cases rx
 obtain ⟨u,rfl,ru⟩:=rv.one
 cases ru
 obtain ⟨z,its,n,r,hl,e⟩:=I.lstM hH
 obtain ⟨z2,its2,n2,r2,hl2,e2⟩:=I.lstM hB
 have hsz:its.toArray.size + its2.toArray.size ≤ sizeLine:=by rw [List.size_toArray,List.size_toArray]; omega
 have hlong : ¬ (!its.toArray.isEmpty && Builtin.List.listTooLong (its.toArray.size + its2.toArray.size)) = true:=by
  rw [zkX hsz,Bool.and_false]
  exact Bool.false_ne_true
 refine call_meets F.slot_list_extend ⟨_,e,rfl⟩ F.entry_list_extend (F.args_list_extend_2 _ _)
  (AutoSeq1.list_extend_list_list_0 l its.toArray n b its2.toArray n2 hlong (by rw [List.size_toArray]; omega) (by omega)) ⟨e,e2,?_⟩
 refine ⟨.non,_,I.lset (its':=its ++ its2) hH e (by simp) (r.append r2) ?_,rfl,q⟩
 rw [List.length_append]
 omega
def rCat:R2:=fun x y H Q=>∃ l b xs zs,x = .ref l ∧ y = .ref b ∧ H l = some (.lst xs) ∧ H b = some (.lst zs) ∧ xs.length + zs.length ≤ sizeLine ∧ ∀ p,H p = none → Q (.ref p) (upd H p (.lst (xs ++ zs)))
theorem zoc:OpR X (binaryOp .Add) rCat:=by
 intro pins s σ H x y v u Q I rx ry h
 obtain ⟨l,b,xs,zs,rfl,rfl,hH,hB,hz,q⟩:=h
 cases rx
 cases ry
 obtain ⟨z,its,n,r,hl,e⟩:=I.lstM hH
 obtain ⟨z2,its2,n2,r2,hl2,e2⟩:=I.lstM hB
 refine PySem.P.add_list e e2 ?_ (by rw [List.size_toArray,List.size_toArray]; omega)
 have ea:its.toArray ++ its2.toArray = (its ++ its2).toArray:=by simp
 rw [ea]
 exact ⟨.ref _,_,I.lnew (t':=s.toks) (r.append r2) (by rw [List.length_append]; omega),rfl,q _ I.fresh⟩
end
section
variable {prog:Program} {w:World} {A:Around} {E:Value → Shared → Prop} {s:Shared}
end
section
variable {X:Cx}
end
end L2
namespace Att
open PySem PySem.W PySem.Calls PyProof.Rows
theorem zd7 {P:Params} {h:Heap} : ∀ (ns:List Int) (vs:List Value),WellAll P h vs (ns.map WData.int) → IntsAre vs ns:=by
 intro ns
 induction ns with
 | nil =>
  intro vs w
  rw [List.map_nil] at w
  cases w
  exact .nil
 | cons n ns ih =>
  intro vs w
  rw [List.map_cons] at w
  cases w with
  | cons a b =>
   cases a
   exact .cons _ _ (ih _ b)
theorem ziH {l:OpenLaw} {n:Nat} (hn:l.most = some n) {P:Params} {h:Heap} {args:List WData} {vals:List Value}
  (hpre:l.row.toRowW.claim.pre args = true) (hwl:WellAll P h vals args) :
  ∃ a vs ns,vals = [Value.ref a] ∧ args = [WData.list (ns.map WData.int)] ∧ h.get? a = some { cls:=.type "list", data:=.seq vs.toArray } ∧ IntsAre vs ns ∧ ns.length ≤ n:=by
 have hsh:WShape.hasAll [] args [.list .int] = true:=(pre_splitW hpre).1
 have hc:l.pre.holds [] { args:=args } = true:=(pre_splitW hpre).2
 obtain ⟨d,r,rfl,h1,h2⟩:=hasAllW_cons hsh
 obtain rfl:=hasAllW_nil h2
 obtain ⟨xs,rfl,h3⟩:=hasW_list h1
 obtain ⟨ns,rfl⟩:=items_int h3
 have hlen:ns.length ≤ n:=by
  unfold OpenLaw.pre at hc
  have h4:(WTm.not (.lt (.lit (.int (n:Int))) (.len (.arg 0)))).holds [] { args:=[.list (ns.map .int)] } = true:=by
   have h4:=(holds_andW hc).1
   rw [hn] at h4
   exact h4
  have h5:=condW_of h4 (w_not (w_lt w_lit (w_len_list (w_arg rfl))))
  rw [List.length_map] at h5
  refine Nat.le_of_not_lt fun q=>?_
  have q':(n:Int) < ((ns.length:Nat) : Int):=by omega
  first
   | (rw [decide_eq_true q'] at h5; exact absurd h5 (by decide))
   | (simp at h5; omega)
 cases hwl with
 | cons w1 w2 =>
  cases w2
  cases w1 with
  | list ho hall=>exact ⟨_,_,ns,rfl,rfl,ho,zd7 ns _ hall,hlen⟩
theorem zh2 (l:OpenLaw) (args:List WData) : l.row.toRowW.claim.post args (.bool true) args = true :=
 postW_of (r:=l.row.toRowW) (X:=(true == true))
  (show WShape.has [] (.bool true) .bool = true by first | rfl | decide | simp [WShape.has,WShape.arms,WShape.armsAll])
  (show (WTm.eq .res (.lit (.bool true))).value [] { args:=args,res:=some (.bool true),after:=args } = some (.bool (true == true)) from w_eq_bool (w_res rfl) w_lit) rfl
theorem attach_call {l:OpenLaw} {n:Nat} {q:Program} {loose:List Str} {XP:(Str → Option Value) → Heap → Prop} {YP:World → Heap → Prop} {d:DefRec}
  (hn:l.most = some n) (hdf:d.params.defaults = [])
  (call:∀ (w:World) (s₀ s₁:Shared) (mg mb:Str → Option Value) (fa:Addr) (o:Obj) (pm cd doc:Value) (a:Addr) (vs:List Value) (ns:List Int),
   Ground q loose [] XP w s₀ mg mb s₁.heap → YP w s₁.heap →
   s₁.heap.get? fa = some o → o.data = .func (docDef d.name d.params d.body d.scope pm cd doc) → s₁.heap.CodeRec cd d.name → mg d.name = some (.ref fa) →
   s₁.heap.get? a = some { cls:=.type "list", data:=.seq vs.toArray } → IntsAre vs ns → ns.length ≤ n → s₁.gens = #[] →
   codeAny (model l.prog w) callerA (.call (.ref fa) ⟨[.ref a],[]⟩) (fun r s'=>r = .ok (.ret (.bool true)) ∧ OldK s₁.heap s'.heap ∧ s'.os = s₁.os ∧ AllBare s'.gens) s₁) :
  WalkO q loose XP YP l.row.toRowW d [] (fun f vs=>PySem.call f vs):=by
 intro w s₀ s₁ mg mb G Y fa o pm cd doc dV kV ho hd hcd hD hmg hg args vals as hpre hlay hrd hwl hlo
 obtain rfl:dV = .none:=Dflts.none hD hdf
 obtain rfl:kV = .none:=Dflts.noKw hD
 obtain ⟨a,vs,ns,rfl,rfl,hobj,hints,hlen⟩:=ziH hn hpre hwl
 refine enter_call (codeAny_mono (call w s₀ s₁ mg mb fa o pm cd doc a vs ns G Y ho (fd_plain hd) hcd hmg hobj hints hlen hg) fun r s' hq=>?_)
 obtain ⟨rfl,h2,h3,h4⟩:=hq
 exact ⟨.inl ⟨.bool true,.bool true,[],rfl,fun _=>rfl,.bool true,zh2 l _,fun _=>⟨List.Pairwise.nil,fun _ hm=>(nomatch hm)⟩⟩,h2,h3,h4⟩
section
variable {prog:Program} {w:World} {A:Around} {E:Value → Shared → Prop} {s:Shared} {K:Frag}
end
end Att
namespace L2
open PySem PySem.Spec PyProof.Rows
theorem zdR:∀ {vs:List Value} {ns:List Int},IntsAre vs ns → Vals (ns.map V.int) vs
 | _,_,.nil=>.nil
 | _,_,.cons n t h=>.cons ⟨t,rfl⟩ (zdR h)
end L2
namespace L2
open PySem PySem.Spec PyProof.Rows
end L2
namespace L2
open PySem PySem.Spec PyProof.Rows
def zc2 (s:Stmt) : Arguments:=match s with
 | .FunctionDef _ a _ _ _ _ _ _ _ _=>a
 | _=>{ posonlyargs:=[],args:=[],vararg:=none,kwonlyargs:=[],kw_defaults:=[],kwarg:=none,defaults:=[] }
def za8 (s:Stmt) : List Stmt:=match s with
 | .FunctionDef _ _ b _ _ _ _ _ _ _=>b
 | _=>[]
def zae (s:Stmt) : Scope:=match s with
 | .FunctionDef _ _ _ _ _ _ sc _ _ _=>sc
 | _=>{ kind:=.function,names:=[],isGenerator:=false,isCoroutine:=false }
abbrev CX0:CXT:=fun _ _ _ _ _ _=>False
abbrev E0:XK:=fun _ _ _=>False
theorem zmg {X:Cx} : Passes CX0 X E0:=fun _ _ _ _ _ _ _ h=>h.elim
structure Fun (K:PySem.W.Frag) (x qual:Str) (st:Stmt) (f:Addr) (fd:FuncData) : Prop where
 ex:∃ (oc:Value) (od:Option Addr) (kV doc pm:Value) (an:Option Addr) (cdv ct:Value) (osl:Array (Option Value)),
  fd = PySem.W.fnOf x qual (zc2 st) (za8 st) (zae st) .none kV doc pm an cdv ct ∧ K.lookup f = some ⟨oc,od,.func fd,osl⟩ ∧ PySem.W.codeIn K cdv qual = true
 kp:PySem.W.keepIn K (.ref f) = true
section
variable {P:Program} {w:World} {K:PySem.W.Frag} {mg:Str → Option Value} {base:Heap}
theorem Fun.ok {x qual:Str} {st:Stmt} {f:Addr} {fd:FuncData} {N ps:List Str} {k:Nat} {sp:Sp} (F:Fun K x qual st f fd) (S:FnScope N ps (zae st)) (len:∀ vs H Q E,sp vs H Q E → vs.length = ps.length)
  (hbody:∀ (cdv:Value) (A:Around) (outer:List Env) (s:Shared) (H:Hp) (vs:List V) (Q:VK) (E:XK),Room k (A.deeper (envOfC qual (zae st) s.heap.objs.size f cdv)) → sp vs H Q E →
   ∃ t,PSs (cxOf CX0 P w K mg base N qual (zae st) f cdv A outer s H E).nox (za8 st) t ∧ t { nx:=fun _ H'=>Q .non H',rt:=Q } (start N vs) H) : FnOk P w K mg base CX0 (k + 1) f fd ps sp:=by
 obtain ⟨oc,od,kV,doc,pm,an,cdv,ct,osl,rfl,lk,hcd⟩:=F.ex
 refine zmv lk hcd S len fun A outer s H vs Q E hr hsp=>?_
 obtain ⟨t,h,q⟩:=hbody cdv A outer s H vs Q E hr hsp
 exact ⟨t,h.nox,q⟩
theorem Fun.binds {x qual:Str} {st:Stmt} {f:Addr} {fd:FuncData} {ps:List Str} (F:Fun K x qual st f fd)
  (h:∀ (kV doc pm:Value) (an:Option Addr) (cdv ct:Value) (us:List Value),us.length = ps.length → bindArgs (PySem.W.fnOf x qual (zc2 st) (za8 st) (zae st) .none kV doc pm an cdv ct) ⟨us,[]⟩ = pure (ps.zip us)) : Binds K fd ps []:=by
 obtain ⟨oc,od,kV,doc,pm,an,cdv,ct,osl,rfl,lk,hcd⟩:=F.ex
 exact .all (h kV doc pm an cdv ct)
theorem zat {x qual:Str} {st:Stmt} {f:Addr} {oc:Value} {od an:Option Addr} {osl:Array (Option Value)} {kV doc pm cdv ct:Value} (l:K.lookup f = some ⟨oc,od,.func (PySem.W.fnOf x qual (zc2 st) (za8 st) (zae st) .none kV doc pm an cdv ct),osl⟩)
  (c:PySem.W.codeIn K cdv qual = true) (k:PySem.W.keepIn K (.ref f) = true) : Fun K x qual st f (PySem.W.fnOf x qual (zc2 st) (za8 st) (zae st) .none kV doc pm an cdv ct):=⟨⟨oc,od,kV,doc,pm,an,cdv,ct,osl,rfl,l,c⟩,k⟩
end
theorem zal {n:Nat} (h:n ≤ 1000) : n < sizeLine:=Nat.lt_of_le_of_lt h (by decide)
section
variable {X:Cx}
end
theorem iteF {A B:Prop} (h:B) : if false = true then A else B:=by
 rw [if_neg Bool.false_ne_true]
 exact h
theorem iteT {A B:Prop} (h:A) : if true = true then A else B:=by
 rw [if_pos rfl]
 exact h
theorem ite2 {c A B:Prop} [Decidable c] (h1:c → A) (h2 : ¬ c → B) : if c then A else B:=by
 by_cases h:c
 ·rw [if_pos h]
  exact h1 h
 ·rw [if_neg h]
  exact h2 h
def Same (H H':Hp) : Prop:=∀ b o,H b = some o → H' b = some o
theorem Same.refl (H:Hp) : Same H H:=fun _ _ h=>h
theorem Same.trans {H H1 H2:Hp} (a:Same H H1) (b:Same H1 H2) : Same H H2:=fun c o h=>b c o (a c o h)
theorem Same.free {H H':Hp} (e:Same H H') {l:Addr} (h:H' l = Option.none) : H l = Option.none:=by
 cases q:H l with
 | none=>rfl
 | some o =>
  rw [e l o q] at h
  cases h
theorem Same.seq {K:PySem.W.Frag} {H H':Hp} {a:Addr} {xs:List V} (e:Same H H') (h:SqL K H a xs) : SqL K H' a xs:=by
 rcases h with (h | ⟨o,h⟩) | h
 ·exact .inl (.inl (e _ _ h))
 ·exact .inl (.inr ⟨o,e _ _ h⟩)
 ·exact .inr h
end L2
namespace L2
open PySem
theorem exg {α:Sort _} {p q:α → Prop} (w:α) (h:p w) (k:q w) : ∃ v,p v ∧ q v:=⟨w,h,k⟩
theorem zah {t u:TS} {D:Ends} {σ:St} {H:Hp} (h:let E:=D; let U:=u E; t { E with nx:=U } σ H) : tSeq t u D σ H:=h
theorem zaa {p:Prop} (h:let G:=p; G) : p:=h
theorem za1 {K:PySem.W.Frag} {a:Addr} {xs:List V} {g:TG} {tb:TS} {D:Ends} {σ:St} {H:Hp} (Pv:Nat → St → Hp → Prop) (h0:Pv 0 σ H) (hl:∀ i σ H,i ≤ xs.length → Pv i σ H → SqL K H a xs)
  (hs:let J:=Pv; let E:=D; ∀ i x σ H,xs[i]? = some x → J i σ H → g x σ H fun σ2 H2=>tb { E with nx:=J (i + 1),ct:=J (i + 1),bk:=E.nx } σ2 H2) (hd:∀ σ H,Pv xs.length σ H → D.nx σ H) :
  ∃ W:Nat → Nat → St → Hp → Prop,(∃ m,W 0 m σ H) ∧ ∀ i m σ H,W i m σ H →
   ((Itl K a).stop i H ∧ D.nx σ H) ∨ ((Itl K a).go i H ∧ ∃ N:St → Hp → Prop,(∀ σ' H',N σ' H' → ∃ m',m' < m ∧ W (i + 1) m' σ' H') ∧ ∀ x H',(Itl K a).yld i H x H' → g x σ H' fun σ2 H2=>tb { D with nx:=N,ct:=N,bk:=D.nx } σ2 H2):=zkM Pv h0 hl hs hd
theorem zem {lo:Int} {n:Nat} {g:TG} {tb:TS} {D:Ends} {σ:St} {H:Hp} (Pv:Nat → St → Hp → Prop) (h0:Pv 0 σ H)
  (hs:let J:=Pv; let E:=D; ∀ i σ H,i < n → J i σ H → g (.int (lo + i)) σ H fun σ2 H2=>tb { E with nx:=J (i + 1),ct:=J (i + 1),bk:=E.nx } σ2 H2) (hd:∀ σ H,Pv n σ H → D.nx σ H) :
  ∃ W:Nat → Nat → St → Hp → Prop,(∃ m,W 0 m σ H) ∧ ∀ i m σ H,W i m σ H →
   ((Itr lo n).stop i H ∧ D.nx σ H) ∨ ((Itr lo n).go i H ∧ ∃ N:St → Hp → Prop,(∀ σ' H',N σ' H' → ∃ m',m' < m ∧ W (i + 1) m' σ' H') ∧ ∀ x H',(Itr lo n).yld i H x H' → g x σ H' fun σ2 H2=>tb { D with nx:=N,ct:=N,bk:=D.nx } σ2 H2):=zjP Pv h0 hs hd
end L2
set_option maxHeartbeats 4000000
namespace Wr
open PySem PySem.W PyProof.Rows
def Kp (key:Nat → Int) (p:Array Nat) (i:Nat) : Int:=key (p.getD i 0)
structure PBase (n:Nat) (p:Array Nat) : Prop where
 perm:p.toList.Perm (List.range n)
theorem PBase.size {n:Nat} {p:Array Nat} (B:PBase n p) : p.size = n:=by
 have h:=B.perm.length_eq
 rw [List.length_range,Array.length_toList] at h
 exact h
theorem PBase.lt {n:Nat} {p:Array Nat} (B:PBase n p) (hn:0 < n) (i:Nat) : p.getD i 0 < n:=by
 rw [Array.getD_eq_getD_getElem?]
 cases e:p[i]? with
 | none=>exact hn
 | some x =>
  have hm:x ∈ p.toList:=by
   rw [Array.getElem?_eq_some_iff] at e
   obtain ⟨h,rfl⟩:=e
   exact Array.getElem_mem_toList h
  exact List.mem_range.mp (B.perm.mem_iff.mp hm)
theorem PBase.rev {n:Nat} {p:Array Nat} (B:PBase n p) (i j:Nat) : PBase n (kas_rev p i j) :=
 ⟨(Array.perm_iff_toList_perm.mp (mirror_perm p i j _)).trans B.perm⟩
theorem PBase.bub {n:Nat} {p:Array Nat} (B:PBase n p) (i j:Nat) : PBase n (bubble p i j) :=
 ⟨(Array.perm_iff_toList_perm.mp (bubble_perm p i j)).trans B.perm⟩
def Up (key:Nat → Int) (p:Array Nat) (k:Nat) : Prop:=∀ i j,i ≤ j → j < k → Kp key p i ≤ Kp key p j
def Dn (key:Nat → Int) (p:Array Nat) (k:Nat) : Prop:=∀ i j,i ≤ j → j < k → Kp key p j ≤ Kp key p i
theorem zf3 {key:Nat → Int} {p:Array Nat} {i j:Nat} (hj:j ≤ p.size) (k:Nat) : Kp key (kas_rev p i j) k = if i ≤ k ∧ k < j then Kp key p (i + j - 1 - k) else Kp key p k:=by
 unfold Kp kas_rev
 rw [Array.getD_eq_getD_getElem?,getElem?_mirror_all hj]
 split <;> rw [Array.getD_eq_getD_getElem?]
theorem zk8 {key:Nat → Int} {p:Array Nat} {k l:Nat} (hk:k < p.size) (hl:l ≤ k) (i:Nat) :
  Kp key (bubble p k (k - l)) i = if i = l then Kp key p k else if l < i ∧ i ≤ k then Kp key p (i - 1) else Kp key p i:=by
 have g:∀ (q:Array Nat) (x:Nat),Kp key q x = key (q[x]?.getD 0):=fun q x=>by unfold Kp; rw [Array.getD_eq_getD_getElem?]
 have e:k - (k - l) = l:=by lia
 rw [g,g,g,g,getElem?_bubble hk (k - l) (by lia),e]
 by_cases h1:i = l
 ·rw [if_pos h1,if_pos h1]
 ·rw [if_neg h1,if_neg h1]
  by_cases h2:l < i ∧ i ≤ k
  ·rw [if_pos h2,if_pos h2]
  ·rw [if_neg h2,if_neg h2]
section
variable {cmp:Nat → Nat → (Bool → Shared → Prop) → Shared → Prop} {key:Nat → Int} {n:Nat} {s:Shared}
def Says (cmp:Nat → Nat → (Bool → Shared → Prop) → Shared → Prop) (key:Nat → Int) (n:Nat) (s:Shared) : Prop :=
 ∀ i j C,i < n → j < n → C (decide (key i < key j)) s → cmp i j C s
theorem ask_ {α:Type} {i j:Nat} {k:Bool → KasT α} {G:α → Shared → Prop} (hc:Says cmp key n s) (hi:i < n) (hj:j < n)
  (h1:key i < key j → (k true).kasWp cmp G s) (h2:key j ≤ key i → (k false).kasWp cmp G s) : (KasT.ask i j k).kasWp cmp G s:=by
 refine hc i j _ hi hj ?_
 by_cases h:key i < key j
 ·rw [decide_eq_true h]; exact h1 h
 ·rw [decide_eq_false h]; exact h2 (Int.not_lt.mp h)
theorem zlL (hc:Says cmp key n s) (hn:0 < n) {p:Array Nat} (B:PBase n p) {G:Nat → Shared → Prop} : ∀ (f a:Nat),1 ≤ a → a + f ≤ n → Up key p a →
  (∀ m,a ≤ m → m ≤ a + f → Up key p m → (m = a + f ∨ Kp key p m < Kp key p (m - 1)) → G m s) → (kas_asc p f a).kasWp cmp G s
 | 0,a,_,_,hu,h=>h a (Nat.le_refl _) (Nat.le_refl _) hu (.inl rfl)
 | f + 1, a, h1, hf, hu, h => by
  show (KasT.ask (p.getD a 0) (p.getD (a - 1) 0) fun c=>if c = true then KasT.ret a else kas_asc p f (a + 1)).kasWp cmp G s
  refine ask_ hc (B.lt hn _) (B.lt hn _) (fun q=>?_) (fun q=>?_)
  ·rw [if_pos rfl]
   exact h a (Nat.le_refl _) (by lia) hu (.inr q)
  ·rw [if_neg (by decide)]
   refine zlL hc hn B f (a + 1) (by lia) (by lia) (fun i j hij hj=>?_) fun m m1 m2 m3 m4=>h m (by lia) (by lia) m3 (by rcases m4 with e | e; exact .inl (by lia); exact .inr e)
   by_cases hja:j < a
   ·exact hu i j hij hja
   ·obtain rfl:j = a:=by lia
    by_cases hi:i = j
    ·subst hi; exact Int.le_refl _
    ·exact Int.le_trans (hu i (j - 1) (by lia) (by lia)) q
theorem zi6 (hc:Says cmp key n s) (hn:0 < n) {G:Array Nat × Nat × Nat → Shared → Prop} : ∀ (f:Nat) (p:Array Nat) (a q:Nat),PBase n p → 1 ≤ a → a + f ≤ n → Dn key p a → q + 1 ≤ a →
  (∀ i,a - (q + 1) ≤ i → i < a → Kp key p i = Kp key p (a - 1)) →
  (∀ p' m q',PBase n p' → a ≤ m → m ≤ a + f → Dn key p' m → q' + 1 ≤ m → (∀ i,m - (q' + 1) ≤ i → i < m → Kp key p' i = Kp key p' (m - 1)) → G (p',m,q') s) → (kas_desc f p a q).kasWp cmp G s
 | 0,p,a,q,B,_,_,hd,hq,he,h=>h p a q B (Nat.le_refl _) (Nat.le_refl _) hd hq he
 | f + 1, p, a, q, B, h1, hf, hd, hq, he, h => by
  have hs:=B.size
  show (KasT.ask (p.getD a 0) (p.getD (a - 1) 0) fun c=>if c = true then (if q > 0 then kas_desc f (kas_rev p (a - (q + 1)) a) (a + 1) 0 else kas_desc f p (a + 1) 0)
   else KasT.ask (p.getD (a - 1) 0) (p.getD a 0) fun d=>if d = true then KasT.ret (p,a,q) else kas_desc f p (a + 1) (q + 1)).kasWp cmp G s
  refine ask_ hc (B.lt hn _) (B.lt hn _) (fun z=>?_) (fun z=>?_)
  ·rw [if_pos rfl]
   have z':Kp key p a < Kp key p (a - 1):=z
   have go:∀ p',PBase n p' → (∀ k,Kp key p' k = Kp key p k) → (kas_desc f p' (a + 1) 0).kasWp cmp G s:=fun p' B' e=>by
    refine zi6 hc hn f p' (a + 1) 0 B' (by lia) (by lia) (fun i j hij hj=>?_) (by lia) (fun i i1 i2=>by congr 1; lia) fun p2 m q2 a1 a2 a3 a4 a5 a6=>h p2 m q2 a1 (by lia) (by lia) a4 a5 a6
    rw [e,e]
    by_cases hja:j < a
    ·exact hd i j hij hja
    ·obtain rfl:j = a:=by lia
     by_cases hi:i = j
     ·subst hi; exact Int.le_refl _
     ·exact Int.le_trans (Int.le_of_lt z') (hd i (j - 1) (by lia) (by lia))
   by_cases hq0:q > 0
   ·rw [if_pos hq0]
    refine go _ (B.rev _ _) fun k=>?_
    rw [zf3 (by lia)]
    split
    ·rename_i hk
     rw [he _ (by lia) (by lia),he k (by lia) hk.2]
    ·rfl
   ·rw [if_neg hq0]
    exact go p B fun _=>rfl
  ·rw [if_neg (by decide)]
   refine ask_ hc (B.lt hn _) (B.lt hn _) (fun y=>?_) (fun y=>?_)
   ·rw [if_pos rfl]
    exact h p a q B (Nat.le_refl _) (by lia) hd hq he
   ·rw [if_neg (by decide)]
    have e:Kp key p a = Kp key p (a - 1):=Int.le_antisymm y z
    refine zi6 hc hn f p (a + 1) (q + 1) B (by lia) (by lia) (fun i j hij hj=>?_) (by lia) (fun i i1 i2=>?_) fun p2 m q2 a1 a2 a3 a4 a5 a6=>h p2 m q2 a1 (by lia) (by lia) a4 a5 a6
    ·by_cases hja:j < a
     ·exact hd i j hij hja
     ·obtain rfl:j = a:=by lia
      by_cases hi:i = j
      ·subst hi; exact Int.le_refl _
      ·rw [e]; exact hd i (j - 1) (by lia) (by lia)
    ·rw [show a + 1 - 1 = a by lia]
     by_cases hi:i = a
     ·subst hi; rfl
     ·rw [e]; exact he i (by lia) (by lia)
theorem zlg (hc:Says cmp key n s) (hn:0 < n) {p:Array Nat} (B:PBase n p) {a:Nat} {G:Nat × Array Nat → Shared → Prop} (h1:1 ≤ a) (ha:a ≤ n) (hd:Dn key p a)
  (h:∀ m p',PBase n p' → 1 ≤ m → m ≤ n → Up key p' m → G (m,p') s) : (kas_tail3 a n p).kasWp cmp G s:=by
 have hs:=B.size
 unfold kas_tail3
 rw [KasT.kasWp_bind]
 refine zlL hc hn (B.rev 0 a) (n - a) a h1 (by lia) (fun i j hij hj=>?_) fun m m1 m2 m3 _=>h m _ (B.rev 0 a) (by lia) (by lia) m3
 rw [zf3 (by lia),zf3 (by lia),if_pos (by lia),if_pos (by lia)]
 exact hd _ _ (by lia) (by lia)
theorem zln (hc:Says cmp key n s) (hn:0 < n) {p:Array Nat} (B:PBase n p) {a:Nat} {G:Nat × Array Nat → Shared → Prop} (ha:a + 1 ≤ n) (hd:Dn key p (a + 1))
  (h:∀ m p',PBase n p' → 1 ≤ m → m ≤ n → Up key p' m → G (m,p') s) : (kas_descPart a n p).kasWp cmp G s:=by
 unfold kas_descPart
 rw [KasT.kasWp_bind]
 refine zi6 hc hn (n - (a + 1)) p (a + 1) 0 B (by lia) (by lia) hd (by lia) (fun i i1 i2=>by congr 1; lia) fun p' m q B' m1 m2 hd' hq he=>?_
 have hs:=B'.size
 show (if q > 0 then kas_tail3 m n (kas_rev p' (m - (q + 1)) m) else kas_tail3 m n p').kasWp cmp G s
 by_cases hq0:q > 0
 ·rw [if_pos hq0]
  have e:∀ k,Kp key (kas_rev p' (m - (q + 1)) m) k = Kp key p' k:=fun k=>by
   rw [zf3 (by lia)]
   split
   ·rename_i hk
    rw [he _ (by lia) (by lia),he k (by lia) hk.2]
   ·rfl
  exact zlg hc hn (B'.rev _ _) (by lia) (by lia) (fun i j hij hj=>by rw [e,e]; exact hd' i j hij hj) h
 ·rw [if_neg hq0]
  exact zlg hc hn B' (by lia) (by lia) hd' h
theorem w_count (hc:Says cmp key n s) (hn:0 < n) {p:Array Nat} (B:PBase n p) {G:Nat × Array Nat → Shared → Prop}
  (h:∀ m p',PBase n p' → 1 ≤ m → m ≤ n → Up key p' m → G (m,p') s) : (kas_count n p).kasWp cmp G s:=by
 have hs:=B.size
 unfold kas_count
 rw [KasT.kasWp_bind]
 have u1:Up key p 1:=fun i j hij hj=>by
  have e:i = j:=by lia
  rw [e]
  exact Int.le_refl _
 refine zlL hc hn B (n - 1) 1 (Nat.le_refl _) (by lia) u1 fun m m1 m2 hu hor=>?_
 by_cases e1:m = n
 ·rw [if_pos (by simpa using e1)]
  exact h m p B m1 (by lia) hu
 ·rw [if_neg (by simpa using e1)]
  have hlt:Kp key p m < Kp key p (m - 1):=hor.resolve_left (by lia)
  by_cases e2:m > 1
  ·rw [if_pos e2]
   refine ask_ hc (B.lt hn _) (B.lt hn _) (fun z=>?_) (fun z=>?_)
   ·rw [if_pos rfl]
    exact h m p B m1 (by lia) hu
   ·rw [if_neg (by decide)]
    have z':Kp key p (m - 1) ≤ Kp key p 0:=z
    have all:∀ k,k < m → Kp key p k = Kp key p 0:=fun k hk=>Int.le_antisymm (Int.le_trans (hu k (m - 1) (by lia) (by lia)) z') (hu 0 k (by lia) hk)
    have e:∀ k,Kp key (kas_rev p 0 m) k = Kp key p k:=fun k=>by
     rw [zf3 (by lia)]
     split
     ·rename_i hk
      rw [all _ (by lia),all k hk.2]
     ·rfl
    refine zln hc hn (B.rev _ _) (by lia) (fun i j hij hj=>?_) h
    rw [e,e]
    by_cases hjm:j < m
    ·rw [all i (by lia),all j hjm]; exact Int.le_refl _
    ·obtain rfl:j = m:=by lia
     by_cases hi:i = j
     ·subst hi; exact Int.le_refl _
     ·have:=all i (by lia)
      have:=all (j - 1) (by lia)
      lia
  ·rw [if_neg e2]
   obtain rfl:m = 1:=by lia
   refine zln hc hn B (by lia) (fun i j hij hj=>?_) h
   by_cases hi:i = j
   ·subst hi; exact Int.le_refl _
   ·obtain rfl:i = 0:=by lia
    obtain rfl:j = 1:=by lia
    exact Int.le_of_lt hlt
theorem zgK (hc:Says cmp key n s) (hn:0 < n) {p:Array Nat} (B:PBase n p) {k:Nat} (hk:k < n) (hu:Up key p k) {G:Nat → Shared → Prop}
  (h:∀ l,l ≤ k → (∀ i,i < l → Kp key p i ≤ Kp key p k) → (∀ i,l ≤ i → i < k → Kp key p k < Kp key p i) → G l s) : ∀ (f l r:Nat),r ≤ l + f → l ≤ r → r ≤ k →
  (∀ i,i < l → Kp key p i ≤ Kp key p k) → (∀ i,r ≤ i → i < k → Kp key p k < Kp key p i) → (kas_place p k f l r).kasWp cmp G s
 | 0,l,r,hf,hlr,hr,h1,h2=>h l (by lia) h1 fun i a b=>h2 i (by lia) b
 | f + 1, l, r, hf, hlr, hr, h1, h2 => by
  show (if l ≥ r then KasT.ret l else KasT.ask (p.getD k 0) (p.getD ((l + r) / 2) 0) fun c=>if c = true then kas_place p k f l ((l + r) / 2) else kas_place p k f ((l + r) / 2 + 1) r).kasWp cmp G s
  by_cases hge:l ≥ r
  ·rw [if_pos hge]
   exact h l (by lia) h1 fun i a b=>h2 i (by lia) b
  ·rw [if_neg hge]
   refine ask_ hc (B.lt hn _) (B.lt hn _) (fun z=>?_) (fun z=>?_)
   ·rw [if_pos rfl]
    have z':Kp key p k < Kp key p ((l + r) / 2):=z
    refine zgK hc hn B hk hu h f l ((l + r) / 2) (by lia) (by lia) (by lia) h1 fun i a b=>?_
    exact Int.lt_of_lt_of_le z' (hu _ _ a b)
   ·rw [if_neg (by decide)]
    have z':Kp key p ((l + r) / 2) ≤ Kp key p k:=z
    refine zgK hc hn B hk hu h f ((l + r) / 2 + 1) r (by lia) (by lia) hr (fun i a=>?_) h2
    exact Int.le_trans (hu i ((l + r) / 2) (by lia) (by lia)) z'
theorem znB (hc:Says cmp key n s) (hn:0 < n) {G:Array Nat → Shared → Prop} (h:∀ p,PBase n p → Up key p n → G p s) : ∀ (f k:Nat) (p:Array Nat),PBase n p → k + f = n → Up key p k → (kas_bin f p k).kasWp cmp G s
 | 0,k,p,B,hk,hu=>h p B (by rw [← hk]; exact hu)
 | f + 1, k, p, B, hk, hu => by
  have hs:=B.size
  show ((kas_place p k k 0 k).bind fun l=>kas_bin f (bubble p k (k - l)) (k + 1)).kasWp cmp G s
  rw [KasT.kasWp_bind]
  refine zgK hc hn B (by lia) hu (fun l hl a1 a2=>?_) k 0 k (by lia) (by lia) (Nat.le_refl _) (fun i hi=>by lia) fun i a b=>by lia
  refine znB hc hn h f (k + 1) _ (B.bub _ _) (by lia) fun i j hij hj=>?_
  rw [zk8 (by lia) hl,zk8 (by lia) hl]
  by_cases hi:i = l
  ·rw [if_pos hi]
   by_cases hjl:j = l
   ·rw [if_pos hjl]; exact Int.le_refl _
   ·rw [if_neg hjl,if_pos (by lia)]
    exact Int.le_of_lt (a2 _ (by lia) (by lia))
  ·rw [if_neg hi]
   by_cases hjl:j = l
   ·rw [if_pos hjl,if_neg (by lia)]
    exact a1 i (by lia)
   ·rw [if_neg hjl]
    by_cases hi2:l < i ∧ i ≤ k
    ·rw [if_pos hi2,if_pos (by lia)]
     exact hu _ _ (by lia) (by lia)
    ·rw [if_neg hi2]
     by_cases hj2:l < j ∧ j ≤ k
     ·rw [if_pos hj2]
      exact hu _ _ (by lia) (by lia)
     ·rw [if_neg hj2]
      exact hu _ _ hij (by lia)
theorem w_sort (hc:Says cmp key n s) (hn:0 < n) {G:Array Nat → Shared → Prop} (h:∀ p,PBase n p → Up key p n → G p s) : (kas_sort n).kasWp cmp G s:=by
 unfold kas_sort
 rw [KasT.kasWp_bind]
 refine w_count hc hn ⟨by simp⟩ fun m p' B m1 m2 hu=>?_
 show (if m < n then kas_bin (n - max m 1) p' (max m 1) else KasT.ret p').kasWp cmp G s
 have e:max m 1 = m:=by lia
 by_cases hm:m < n
 ·rw [if_pos hm,e]
  exact znB hc hn h (n - m) m p' B (by lia) hu
 ·rw [if_neg hm]
  obtain rfl:m = n:=by lia
  exact h p' B hu
end
end Wr
namespace L2
open PySem PySem.Spec PyProof.Rows
abbrev atA (X:Cx) (A:Around) : Cx:={ X with A:=A }
section
variable {X:Cx} {pins:List (Addr × Obj)} {σ:St} {H:Hp} {s:Shared} {A:Around}
theorem zm6 (I:Inv X pins σ H s) (h1:X.calm = true → A.handled = none) (h2:A.frames = some X.stack) : Inv (atA X A) pins σ H s :=
 have o:=I.ok
 ⟨⟨o.mod,o.kind,o.glob,o.blt,o.above,o.inj,o.has,o.cab,h1,h2,o.stk,o.exf,o.bs,o.bsz,o.noex,o.exfs,o.funs,o.frf⟩,I.os,I.bare,I.base,I.loc,I.cell,I.free,I.freeC,I.pin,I.hok,I.len⟩
theorem zn1 (I:Inv (atA X A) pins σ H s) (h1:X.calm = true → X.A.handled = none) (h2:X.A.frames = some X.stack) : Inv X pins σ H s :=
 have o:=I.ok
 ⟨⟨o.mod,o.kind,o.glob,o.blt,o.above,o.inj,o.has,o.cab,h1,h2,o.stk,o.exf,o.bs,o.bsz,o.noex,o.exfs,o.funs,o.frf⟩,I.os,I.bare,I.base,I.loc,I.cell,I.free,I.freeC,I.pin,I.hok,I.len⟩
theorem zlO (I:Inv X pins σ H s) : Inv (atA X X.A.in1.in1) pins σ H s:=zm6 I (fun h=>I.ok.hd h) I.ok.frames
theorem Inv.track {b:Addr} {o:HO} {t:Nat} {h':Heap} (I:Inv X pins σ H s) (hf:FpOk X pins H b) (k:∀ c u,c ≠ b → s.heap.get? c = some u → h'.get? c = some u) (hb:∃ u,h'.get? b = some u)
  (new:ObjOk X.prog X.w (upd H b o) h' b o) : Inv X pins σ (upd H b o) { s with heap:=h',toks:=t }:=by
 refine zaa ?_; intro G_; obtain ⟨f0,f1,f2,f3,f4,f5⟩:=hf
 have nb:∀ c u,H c = some u → c ≠ b:=fun c u e z=>by rw [z,f0] at e; cases e
 refine I.step (g':=s.gens) (d':=s.drawn) (ch:=[b]) (fun c hc=>?_) (fun c u _ _ hc e _=>k c u (fun z=>hc (by simp [z])) e) (fun c u _ _ hc e _=>⟨u.slots,k c u (fun z=>hc (by simp [z])) e⟩)
  (fun c u hc e n=>by rw [zad (fun z=>hc (by simp [z]))]; exact n) (fun c u hc e=>⟨u,k c u (fun z=>hc (by simp [z])) e⟩) (fun c xs e=>by rw [zad (nb c _ e)]; exact e) (fun c u v e=>by rw [zad (nb c _ e)]; exact e)
  (fun c ps e=>⟨#[],by rw [zad (nb c _ e),e]; simp⟩) (fun m hm=>?_) (fun c u e=>?_) I.bare
 ·obtain rfl:c = b:=by simpa using hc
  exact ⟨f3,f1,f4,f5⟩
 ·refine zaa ?_; intro G_; obtain ⟨ob,es,ep,ho,r⟩:=hm
  exact ⟨ob,es,ep,k _ _ (Ne.symm f1) ho,r⟩
 ·by_cases hc:c = b
  ·subst hc; rw [zab] at e; cases e; exact new
  ·rw [zad hc] at e
   refine (I.hok c u e).stay (fun d v hd q=>k d v ?_ q) (fun d q=>by rw [zad (nb d _ q)]; exact q) fun d xs q=>by rw [zad (nb d _ q)]; exact q
   rcases hd with z | z
   ·rw [z]; exact hc
   ·exact nb d _ z
end
def lexI:List Int → List Int → Bool
 | [],[]=>false
 | [],_ :: _=>true
 | _ :: _,[]=>false
 | a :: x,b :: y=>if a = b then lexI x y else decide (a < b)
theorem zhh:∀ x,lexI x x = false
 | []=>rfl
 | a :: x=>by show (if a = a then lexI x x else _) = false; rw [if_pos rfl]; exact zhh x
theorem zc7:∀ {x y z},lexI x y = true → lexI y z = true → lexI x z = true
 | [],[],_,h,_=>by cases h
 | [],_ :: _,[],_,h=>by cases h
 | [],_ :: _,_ :: _,_,_=>rfl
 | _ :: _,[],_,h,_=>by cases h
 | _ :: _,_ :: _,[],_,h=>by cases h
 | a :: x, b :: y, c :: z, h1, h2 => by
  simp only [lexI] at h1 h2 ⊢
  by_cases e1:a = b
  ·subst e1
   rw [if_pos rfl] at h1
   by_cases e2:a = c
   ·rw [if_pos e2] at h2 ⊢; exact zc7 h1 h2
   ·rw [if_neg e2] at h2 ⊢; exact h2
  ·rw [if_neg e1] at h1
   have h1:=of_decide_eq_true h1
   by_cases e2:b = c
   ·subst e2; rw [if_neg e1]; exact decide_eq_true h1
   ·rw [if_neg e2] at h2
    have h2:=of_decide_eq_true h2
    rw [if_neg (by lia)]; exact decide_eq_true (by lia)
theorem zcY:∀ {x y},lexI x y = false → lexI y x = false → x = y
 | [],[],_,_=>rfl
 | [],_ :: _,h,_=>by cases h
 | _ :: _,[],_,h=>by cases h
 | a :: x, b :: y, h1, h2 => by
  simp only [lexI] at h1 h2
  by_cases e:a = b
  ·subst e
   rw [if_pos rfl] at h1 h2
   rw [zcY h1 h2]
  ·rw [if_neg e] at h1
   rw [if_neg (Ne.symm e)] at h2
   have:=of_decide_eq_false h1
   have:=of_decide_eq_false h2
   lia
def zel (ks:List (List Int)) (x:List Int) : Int:=((ks.filter fun k=>lexI k x).length:Nat)
theorem filter_mono {α:Type} {p q:α → Bool} : ∀ (l:List α),(∀ x ∈ l,p x = true → q x = true) → (l.filter p).length ≤ (l.filter q).length
 | [],_=>Nat.le_refl _
 | x :: l, h => by
  have ih:=filter_mono l fun y hy=>h y (List.mem_cons_of_mem _ hy)
  rw [List.filter_cons,List.filter_cons]
  by_cases e:p x = true
  ·rw [if_pos e,if_pos (h x List.mem_cons_self e),List.length_cons,List.length_cons]; lia
  ·rw [if_neg e]
   split
   ·rw [List.length_cons]; lia
   ·exact ih
theorem zcG {α:Type} {p q:α → Bool} {a:α} : ∀ (l:List α),(∀ x ∈ l,p x = true → q x = true) → a ∈ l → p a = false → q a = true → (l.filter p).length < (l.filter q).length
 | [],_,h,_,_=>by cases h
 | x :: l, h, hm, h1, h2 => by
  have h':∀ y ∈ l,p y = true → q y = true:=fun y hy=>h y (List.mem_cons_of_mem _ hy)
  have mono:=filter_mono l h'
  rw [List.filter_cons,List.filter_cons]
  rcases List.mem_cons.mp hm with e | hm
  ·subst e
   rw [if_neg (by rw [h1]; decide),if_pos h2,List.length_cons]; lia
  ·have ih:=zcG l h' hm h1 h2
   by_cases e:p x = true
   ·rw [if_pos e,if_pos (h x List.mem_cons_self e),List.length_cons,List.length_cons]; lia
   ·rw [if_neg e]
    split
    ·rw [List.length_cons]; lia
    ·exact ih
theorem zjx {ks:List (List Int)} {x y:List Int} (hx:x ∈ ks) : decide (zel ks x < zel ks y) = lexI x y:=by
 cases e:lexI x y with
 | true =>
  refine decide_eq_true ?_
  have:=zcG (p:=fun k=>lexI k x) (q:=fun k=>lexI k y) (a:=x) ks (fun z _ h=>zc7 h e) hx (zhh x) e
  unfold zel; lia
 | false =>
  refine decide_eq_false ?_
  have:=filter_mono (p:=fun k=>lexI k y) (q:=fun k=>lexI k x) ks fun z _ h=>by
   cases q:lexI y x with
   | true=>exact zc7 h q
   | false=>rw [zcY e q]; exact h
  unfold zel; lia
section
variable {prog:Program} {w:World} {A:Around} {E:Value → Shared → Prop} {s:Shared}
theorem zkb {flag:Bool} {Q:Bool → Shared → Prop} : ∀ (xs ys:List Int) (us vs:List Value) (i:Nat) (fin:Bool),IntsAre us xs → IntsAre vs ys →
  (fin = decide (xs.length < ys.length)) → Q (lexI xs ys) s → PySem.W.KatLex prog w A flag fin Q (us.zip vs) i s:=by
 intro xs
 induction xs with
 | nil =>
  intro ys us vs i fin hu hv e h
  cases hu
  cases hv <;> (subst e; exact PySem.W.kat_nil h)
 | cons a xs ih =>
  intro ys us vs i fin hu hv e h
  cases hu with
  | cons _ t hx =>
   cases hv with
   | nil=>subst e; exact PySem.W.kat_nil h
   | cons b u hy =>
    rw [List.zip_cons_cons]
    refine PySem.W.kat_cons (wpAny_eqBool_int ?_)
    simp only [lexI] at h
    by_cases q:a = b
    ·subst q
     rw [if_pos rfl] at h
     rw [beq_self_eq_true]
     refine PySem.W.kat_yes (ih _ _ _ (i + 1) fin hx hy ?_ h)
     rw [e]; simp
    ·rw [if_neg q] at h
     rw [beq_eq_false_iff_ne.mpr q]
     refine PySem.W.kat_no ?_
     cases flag && i == 0 with
     | true=>exact oneLt_int h
     | false=>exact PySem.W.kat_one _ _ (lt_int h)
end
end L2
namespace L2
open PySem PySem.Spec PyProof.Rows
def KeyAt (h:Heap) (v:Value) (k:List Int) : Prop:=∃ a us,v = .ref a ∧ IsTup h a (List.toArray us) ∧ IntsAre us k ∧ k ≠ []
theorem KeyAt.keeps {h h':Heap} {v:Value} {k:List Int} (x:KeyAt h v k) (kp:∀ a o,h.get? a = some o → o.cls = .type "tuple" → h'.get? a = some o) : KeyAt h' v k:=by
 refine zaa ?_; intro G_; obtain ⟨a,us,e,⟨o,ho,hc,n,hd⟩,i,ne⟩:=x
 exact ⟨a,us,e,⟨o,kp a o ho hc,hc,n,hd⟩,i,ne⟩
abbrev KeysAt (h:Heap) : List Value → List (List Int) → Prop:=Paired (KeyAt h)
theorem KeysAt.firsts {h:Heap} : ∀ {vs:List Value} {ks:List (List Int)},KeysAt h vs ks → ∃ fs:List Value,fs.length = vs.length ∧ PySem.W.KatTups h vs fs ∧ ∀ f ∈ fs,∃ i t,f = Value.int i t:=by
 intro vs ks p
 induction p with
 | nil=>exact ⟨[],rfl,.nil,fun _ z=>nomatch z⟩
 | cons r t ih =>
  obtain ⟨fs,e,T,F⟩:=ih
  obtain ⟨a,us,rfl,⟨o,ho,hc,n,hd⟩,hi,ne⟩:=r
  cases hi with
  | nil=>exact absurd rfl ne
  | cons i tk hr =>
   refine ⟨.int i tk :: fs,by rw [List.length_cons,List.length_cons,e],.cons ho hc hd (by simp) T,fun f hf=>?_⟩
   rcases List.mem_cons.mp hf with z | z
   ·exact ⟨i,tk,z⟩
   ·exact F f z
theorem zcg {α β:Type} {R:α → β → Prop} : ∀ {xs:List α} {ys:List β},Paired R xs ys → ∀ (i:Nat) (a:α) (b:β),i < xs.length → R (xs.getD i a) (ys.getD i b):=by
 intro xs ys h
 induction h with
 | nil=>intro i a b h; exact absurd h (Nat.not_lt_zero _)
 | cons r t ih =>
  intro i a b h
  cases i with
  | zero=>exact r
  | succ i=>simpa using ih i a b (Nat.lt_of_succ_lt_succ h)
theorem zak {α β:Type} {R:α → β → Prop} {x:α} {y:β} (h:R x y) : ∀ {xs:List α} {ys:List β},Paired R xs ys → Paired R (xs ++ [x]) (ys ++ [y]):=by
 intro xs ys p
 induction p with
 | nil=>exact .cons h .nil
 | cons r t ih=>exact .cons r ih
section
variable {prog:Program} {w:World} {A:Around} {E:Value → Shared → Prop} {s:Shared}
theorem zfz {vs:List Value} {ks:List (List Int)} {Q:SortKind → Shared → Prop} (r:KeysAt s.heap vs ks) (hn:0 < vs.length) (h:Q (tuples' true) s) : wpAny (model prog w) A (keyKind' vs.toArray) Q E s:=by
 refine zaa ?_; intro G_; obtain ⟨fs,e,T,F⟩:=r.firsts
 refine PySem.W.kat_kind (T:=.type "int") T (by lia) (fun v hv=>?_) rfl h
 refine zaa ?_; intro G_; obtain ⟨i,t,rfl⟩:=F v hv
 exact PySem.W.Looks.of_pure rfl
theorem zfm {vs:List Value} {ks:List (List Int)} (r:KeysAt s.heap vs ks) : Wr.Says (PySem.W.kas_ask prog w A (tuples' true) vs) (fun i=>zel ks (ks.getD i [])) vs.length s:=by
 intro i j C hi hj h
 have hl:vs.length = ks.length:=Paired.length r
 obtain ⟨a,us,ea,⟨oa,ha,ca,na,da⟩,ia,_⟩:=zcg r i Value.none [] hi
 obtain ⟨b,ws,eb,⟨ob,hb,cb,nb,db⟩,ib,_⟩:=zcg r j Value.none [] hj
 unfold PySem.W.kas_ask
 rw [ea,eb]
 have hm:ks.getD i [] ∈ ks:=by
  have:i < ks.length:=by lia
  simp [this]
 rw [zjx hm] at h
 refine PySem.W.kat_lt ha da hb db ?_
 refine zkb _ _ _ _ 0 _ (by simpa using ia) (by simpa using ib) ?_ h
 rw [List.size_toArray,List.size_toArray,ia.length,ib.length]
end
def zaV (kf:V → List Int) (ys:List V) : Prop:=ys.Pairwise fun a b=>lexI (kf b) (kf a) = false
theorem zec {α β:Type} (f:α → β) (xs:List α) (a:α) (b:β) (i:Nat) (h:i < xs.length) : (xs.map f).getD i b = f (xs.getD i a):=by simp [h]
theorem zfS {α:Type} (xs:List α) (d:α) (p:List Nat) (h:p.Perm (List.range xs.length)) : (p.map fun i=>xs.getD i d).Perm xs:=by
 refine (h.map _).trans (List.Perm.of_eq ?_)
 apply List.ext_getElem (by simp)
 intro i h1 h2
 simp at h1
 simp [h1]
theorem getD_in {α:Type} (xs:List α) (d:α) (i:Nat) (h:i < xs.length) : xs.getD i d ∈ xs:=by
 have e:xs.getD i d = xs[i]:=by simp [h]
 rw [e]
 exact List.getElem_mem h
theorem zd9 {kf:V → List Int} {xs:List V} {p:Array Nat} (B:Wr.PBase xs.length p) (hu:Wr.Up (fun i=>zel (xs.map kf) ((xs.map kf).getD i [])) p xs.length) (hn:0 < xs.length) :
  zaV kf (p.toList.map fun i=>xs.getD i .non):=by
 unfold zaV
 rw [List.pairwise_map,List.pairwise_iff_getElem]
 intro i j hi hj hij
 have hs:=B.size
 rw [Array.length_toList] at hi hj
 have e1:p.toList[i] = p.getD i 0:=by simp [Array.getD,hi]
 have e2:p.toList[j] = p.getD j 0:=by simp [Array.getD,hj]
 have q:=hu i j (Nat.le_of_lt hij) (by lia)
 have l1:=B.lt hn i
 have l2:=B.lt hn j
 rw [e1,e2]
 unfold Wr.Kp at q
 dsimp only at q
 rw [zec kf xs .non [] _ l1,zec kf xs .non [] _ l2] at q
 have hm:kf (xs.getD (p.getD j 0) .non) ∈ xs.map kf:=List.mem_map.mpr ⟨_,getD_in xs .non _ l2,rfl⟩
 rw [← zjx hm]
 exact decide_eq_false (Int.not_lt.mpr q)
section
variable {X:Cx} {pins:List (Addr × Obj)} {σ:St} {H:Hp} {s:Shared} {E:Value → Shared → Prop}
theorem FpOk.of {b:Addr} {H':Hp} (h:FpOk X pins H b) (n:H' b = none) : FpOk X pins H' b:=⟨n,h.2⟩
theorem Same.upd {H':Hp} {a:Addr} {o:HO} (h:Same H H') (n:H a = none) : Same H (upd H' a o):=fun b u e=>by rw [zad (zaf e n)]; exact h b u e
def zeZ (X:Cx) (A:Around) (f:Value) (H:Hp) (xs:List V) (kf:V → List Int) : Prop :=
 ∀ (pins:List (Addr × Obj)) (s1:Shared) (σ:St) (H1:Hp) (x:V) (u:Value),Inv (atA X A) pins σ H1 s1 → Same H H1 → x ∈ xs → RelV x u →
  wpAny (model X.prog X.w) A (call f [u]) (fun r s2=>∃ t H2,r = .ref t ∧ Inv (atA X A) pins σ H2 s2 ∧ H2 t = some (.tup ((kf x).map V.int)) ∧ Same H1 H2) (fun _ _=>False) s1
theorem zd5:∀ {ns:List Int} {us:List Value},Vals (ns.map V.int) us → IntsAre us ns
 | [],_,.nil=>.nil
 | n :: ns,_,.cons r t=>by
  obtain ⟨tk,rfl⟩:=r
  exact .cons n tk (zd5 t)
theorem zk4 {t:Addr} {ks:List Int} (I:Inv X pins σ H s) (h:H t = some (.tup (ks.map V.int))) (ne:ks ≠ []) : KeyAt s.heap (.ref t) ks:=by
 refine zaa ?_; intro G_; obtain ⟨z,its,r,p⟩:=I.hok t _ h
 exact ⟨t,its,rfl,p,zd5 r,ne⟩
end
end L2
namespace L2
open PySem PySem.Spec PyProof.Rows
section
variable {X:Cx} {pins:List (Addr × Obj)} {σ:St} {H:Hp} {s:Shared} {E:Value → Shared → Prop} {A:Around}
structure Asking (X:Cx) (A:Around) (pins:List (Addr × Obj)) (σ:St) (H:Hp) (D kS:Addr) (e1:Nat) (ks:List (List Int)) (s:Shared) : Prop where
 ex:∃ (H1:Hp) (ts:List Addr) (e:Nat),Inv (atA X A) pins σ H1 s ∧ Same H H1 ∧ FpOk (atA X A) pins H1 D ∧ FpOk (atA X A) pins H1 kS ∧ s.heap.get? D = some (seqObj "list" #[] e1) ∧
  s.heap.get? kS = some (seqObj "list" (List.toArray (ts.map Value.ref)) e) ∧ Paired (fun t k=>H1 t = some (.tup (List.map V.int k))) ts ks
theorem zmk {ts:List Addr} {ks:List (List Int)} (I:Inv X pins σ H s) (ne:∀ k ∈ ks,k ≠ []) (p:Paired (fun t k=>H t = some (.tup (List.map V.int k))) ts ks) : KeysAt s.heap (ts.map Value.ref) ks:=by
 induction p with
 | nil=>exact .nil
 | cons r t ih=>exact .cons (zk4 I r (ne _ List.mem_cons_self)) (ih fun k hk=>ne k (List.mem_cons_of_mem _ hk))
theorem zcm {n:Nat} (h:n < 64) : n ≤ sizeLine:=by rw [sizeLine_eq]; lia
theorem zku {f:Value} {xs:List V} {kf:V → List Int} {D kS:Addr} {e1:Nat} {ks:List (List Int)} {x:V} {u:Value} {R:Unit → Shared → Prop} (hDK:D ≠ kS) (hc:zeZ X A f H xs kf) (hx:x ∈ xs) (r:RelV x u)
    (h64:ks.length < 64) (a:Asking X A pins σ H D kS e1 ks s) (h:∀ s3,Asking X A pins σ H D kS e1 (ks ++ [kf x]) s3 → R () s3) :
    wpAny (model X.prog X.w) A (call f [u]) (fun k s2=>wpAny (model X.prog X.w) A (Builtin.List.listUpdate (.ref kS) (·.push k)) R E s2) (fun _ _=>False) s:=by
  refine zaa ?_; intro G_; obtain ⟨H1,ts,e,I,sm,fD,fK,oD,oK,pr⟩:=a.ex
  have I1 := I.pinned (fp := [D, kS]) (fun b hb => by rcases List.mem_cons.mp hb with z | z; · rw [z]; exact fD
                                                      · rw [List.mem_singleton.mp z]; exact fK) (fun b hb=>by
    rcases List.mem_cons.mp hb with z | z
    · rw [z]; exact ⟨_,oD,fun v q=>by cases q⟩
    · rw [List.mem_singleton.mp z]; exact ⟨_,oK,fun v q=>by cases q⟩)
  refine wpAny_mono (hc _ s σ H1 x u I1 sm hx r) (fun k s2 ⟨t,H2,ek,I2,ht,sm2⟩=>?_) fun _ _ z=>z
  subst ek
  have pD:=I2.pin (D,seqObj "list" #[] e1) (List.mem_append_right _ (List.mem_append_right _ (zbF (by simp) oD)))
  have pK:=I2.pin (kS,seqObj "list" (List.toArray (ts.map Value.ref)) e) (List.mem_append_right _ (List.mem_append_right _ (zbF (by simp) oK)))
  have I3:=I2.unpinned
  have fD2:FpOk (atA X A) pins H2 D:=FpOk.of fD pD.2.1
  have fK2:FpOk (atA X A) pins H2 kS:=FpOk.of fK pK.2.1
  have hl:ts.length = ks.length:=Paired.length pr
  have hz:(List.toArray (ts.map Value.ref)).size < 64:=by rw [List.size_toArray,List.length_map]; lia
  refine listUpdate_at pK.1 rfl ?_ (zcm hz) (by rw [Array.size_push]; exact Nat.succ_le_succ (zcm hz))
  have sb:=Heap.SameBut.update s2.heap kS (Obj.mapSeq (·.push (Value.ref t)))
  have ea:(List.toArray (ts.map Value.ref)).push (.ref t) = List.toArray ((ts ++ [t]).map Value.ref):=by simp
  have q3:=get?_update_seq pK.1 (·.push (Value.ref t))
  rw [ea] at q3
  exact h _ ⟨H2,ts ++ [t],_,I3.turned (t':=s2.toks) (fun b o hb q=>(sb.2 b hb).trans q) fK2.1 fK2.2.1 fK2.2.2.2.1 fK2.2.2.2.2.1 fK2.2.2.2.2.2,sm.trans sm2,fD2,fK2,(sb.2 D hDK).trans pD.1,q3,
    zak (R:=fun (t:Addr) (k:List Int)=>H2 t = some (.tup (List.map V.int k))) ht (Paired.mapP pr fun c k q=>sm2 c _ q)⟩
theorem zkg {f:Value} {xs:List V} {kf:V → List Int} {D kS:Addr} {e1:Nat} (hDK:D ≠ kS) (hc:zeZ X A f H xs kf) {body:Value → PUnit → Sem (ForInStep PUnit)}
  (hb:∀ (u:Value) (s1:Shared) (R:ForInStep PUnit → Shared → Prop),
   wpAny (model X.prog X.w) A (call f [u]) (fun k s2=>wpAny (model X.prog X.w) A (Builtin.List.listUpdate (.ref kS) (·.push k)) (fun _ s3=>R (.yield ⟨⟩) s3) E s2) (fun _ _=>False) s1 →
    wpAny (model X.prog X.w) A (body u ⟨⟩) R E s1) {R:PUnit → Shared → Prop} : ∀ (ys:List V) (us:List Value) (ks:List (List Int)) (s:Shared),(∀ y ∈ ys,y ∈ xs) → Vals ys us → ks.length + ys.length < 64 → Asking X A pins σ H D kS e1 ks s →
   (∀ s',Asking X A pins σ H D kS e1 (ks ++ ys.map kf) s' → R ⟨⟩ s') → wpAny (model X.prog X.w) A (forIn us PUnit.unit body) R E s:=by
 intro ys
 induction ys with
 | nil =>
  intro us ks s _ v _ a h
  cases v
  rw [List.forIn_nil]
  exact wpAny_pure (h s (by rw [List.map_nil,List.append_nil]; exact a))
 | cons y ys ih =>
  intro us ks s hy v hl a h
  cases v with
  | cons r t =>
   rw [List.length_cons] at hl
   rw [List.forIn_cons]
   refine wpAny_bind (hb _ s _ (zku hDK hc (hy y List.mem_cons_self) r (by lia) a fun s3 a3=>?_))
   refine ih _ (ks ++ [kf y]) s3 (fun z hz=>hy z (List.mem_cons_of_mem _ hz)) t (by rw [List.length_append,List.length_singleton]; lia) a3 fun s' a'=>h s' ?_
   rw [List.map_cons]
   rw [List.append_assoc] at a'
   exact a'
theorem zdG:∀ {xs:List V} {us:List Value},Vals xs us → ∀ p:List Nat,Vals (p.map fun i=>xs.getD i .non) (p.map fun i=>us.getD i Value.none)
 | _,_,_,[]=>.nil
 | xs, us, r, i :: p => by
  refine .cons ?_ (zdG r p)
  by_cases h:i < xs.length
  ·exact zcg r i .non Value.none h
  ·have hl:=Vals.length r
   have e1:xs.getD i .non = .non:=by simp [Nat.le_of_not_lt h]
   have e2:us.getD i Value.none = Value.none:=by simp [Nat.le_of_not_lt (hl ▸ h)]
   show RelV (xs.getD i .non) (us.getD i Value.none)
   rw [e1,e2]
   rfl
theorem zj7 {xs:List V} {us:List Value} {kf:V → List Int} {D kS:Addr} {e1:Nat} {P:PySem.Fin → Shared → Prop} (hDK:D ≠ kS) (r:Vals xs us) (h64:xs.length < 64) (ne:∀ x ∈ xs,kf x ≠ []) (a:Asking X A pins σ H D kS e1 (xs.map kf) s)
  (h:∀ s' H' ys,Inv (atA X A) pins σ H' s' → Same H H' → H' D = some (.lst ys) → ys.Perm xs → zaV kf ys → P (.done (.ret .none)) s') :
  wpAny (model X.prog X.w) A (do let keys ← Builtin.List.listItems (.ref kS); ksk_end D false us.toArray e1 (.ref kS) keys) P E s:=by
 refine zaa ?_; intro G_; obtain ⟨H1,ts,e,I,sm,fD,fK,oD,oK,pr⟩:=a.ex
 have hD0:H D = none:=by
  cases q:H D with
  | none=>rfl
  | some o=>have:=sm D o q; rw [fD.1] at this; cases this
 have hl:=Vals.length r
 have hlk:ts.length = xs.length:=by have:=Paired.length pr; rw [List.length_map] at this; exact this
 refine wpAny_bind (listItems_at oK rfl ?_)
 have fin:∀ (st:SortSt) (ys:List V) (ws:List Value),Vals ys ws → ws.length < 64 → (arrOf st).map (·.2) = List.toArray ws → failedOf st = none → ys.Perm xs → zaV kf ys → wpAny (model X.prog X.w) A (ksk_tail D false e1 (.ref kS) st) P E s:=by
  intro st ys ws rv hw ho hf hp hs
  have sb:=Heap.SameBut.update s.heap kS (Obj.mapSeq fun _=>(#[] : Array Value))
  have I1:=I.turned (t':=s.toks) (it:=kS) (h':=s.heap.update kS (Obj.mapSeq fun _=>(#[] : Array Value))) (fun b o hb q=>(sb.2 b hb).trans q) fK.1 fK.2.1 fK.2.2.2.1 fK.2.2.2.2.1 fK.2.2.2.2.2
  have oD1:(s.heap.update kS (Obj.mapSeq fun _=>(#[] : Array Value))).get? D = some (seqObj "list" #[] e1):=(sb.2 D hDK).trans oD
  unfold ksk_tail
  dsimp only
  rw [ho]
  have hkz:(List.toArray (ts.map Value.ref)).size < 64:=by rw [List.size_toArray,List.length_map]; lia
  refine wpAny_bind (listUpdate_at oK rfl ?_ (zcm hkz) (Nat.zero_le _))
  refine wpAny_bind (wpAny_letGo ?_)
  refine wpAny_bind (seqEpoch_at oD1 rfl ?_)
  refine wpAny_bind (listUpdate_at oD1 rfl ?_ (Nat.zero_le _) (by rw [if_neg (by decide),List.size_toArray]; exact Nat.le_succ_of_le (zcm hw)))
  rw [hf]
  simp only [bne_self_eq_false,Bool.false_eq_true,if_false]
  have sb2:=Heap.SameBut.update (s.heap.update kS (Obj.mapSeq fun _=>(#[] : Array Value))) D (Obj.mapSeq fun _=>List.toArray ws)
  have q2:=get?_update_seq oD1 fun _=>List.toArray ws
  refine wpAny_pure (h _ (upd H1 D (.lst ys)) ys ?_ (sm.upd hD0) zab hp hs)
  exact Inv.track (s:={ s with heap:=s.heap.update kS (Obj.mapSeq fun _=>(#[] : Array Value)) }) (t:=s.toks) I1 fD (fun c u hc q=>(sb2.2 c hc).trans q) ⟨_,q2⟩ ⟨by rw [Vals.length rv]; exact zcm hw,ws,_,rv,q2⟩
 unfold ksk_end
 dsimp only
 rw [if_neg (by decide : ¬ false = true)]
 by_cases h2:us.toArray.size < 2
 ·rw [if_pos h2,if_pos h2]
  have h2':us.length < 2:=by rw [List.size_toArray] at h2; exact h2
  refine wpAny_bind (wpAny_pure ?_)
  rw [StateT.run_pure]
  refine wpAny_bind (wpAny_pure ?_)
  dsimp only
  refine fin _ xs us r (by lia) ?_ rfl (List.Perm.refl _) ?_
  ·show ((List.toArray (ts.map Value.ref)).zip us.toArray).map (·.2) = us.toArray
   apply Array.toList_inj.mp
   rw [Array.toList_map,Array.toList_zip]
   rw [List.map_snd_zip]
   simp; lia
  ·unfold zaV
   match xs,hl with
   | [],_=>exact .nil
   | [_],_=>exact List.pairwise_singleton _ _
   | _ :: _ :: _,hl=>simp at hl; lia
 ·rw [if_neg h2,if_neg h2]
  have h2':2 ≤ us.length:=by rw [List.size_toArray] at h2; lia
  have K:=zmk I (fun k hk=>by obtain ⟨x,hx,rfl⟩:=List.mem_map.mp hk; exact ne x hx) pr
  refine wpAny_bind (zfz K (by rw [List.length_map]; lia) ?_)
  have hlen:(ts.map Value.ref).length = us.length:=by rw [List.length_map]; lia
  refine wpAny_bind (wpAny_mono (PySem.W.kat_run (Q:=fun st' s'=>s' = s ∧ ∃ p:Array Nat,arrOf st' = p.map (PySem.W.kas_item ((List.toArray (ts.map Value.ref)).zip us.toArray)) ∧ failedOf st' = none ∧ Wr.PBase us.length p ∧ Wr.Up (fun i=>zel (xs.map kf) ((xs.map kf).getD i [])) p us.length)
   (G:=fun p s'=>s' = s ∧ Wr.PBase us.length p ∧ Wr.Up (fun i=>zel (xs.map kf) ((xs.map kf).getD i [])) p us.length) hlen h2' (by lia) (fun p st' s' a1 a2 a3 a4=>⟨a4.1,p,a2,a3,a4.2⟩) ?_) ?_ fun _ _ z=>z)
  ·have S:=zfm (prog:=X.prog) (w:=X.w) (A:=A) K
   rw [hlen] at S
   exact Wr.w_sort S (by lia) fun p B u=>⟨rfl,B,u⟩
  ·rintro ⟨⟨⟩,st'⟩ s' ⟨rfl,p,e1',hf,B,u⟩
   dsimp only
   have ho:=PySem.W.kat_snds hlen e1'
   rw [← hl] at B u
   refine fin st' _ _ (zdG r p.toList) (by rw [List.length_map,Array.length_toList,B.size]; lia) ho hf (zfS xs .non p.toList B.perm) (zd9 B u (by lia))
end
end L2
namespace L2
open PySem PySem.Spec PyProof.Rows
section
variable {X:Cx} {pins:List (Addr × Obj)} {σ:St} {H:Hp} {s:Shared} {E:Value → Shared → Prop} {A:Around}
theorem zhG {k:Nat} {f:Addr} {fd:FuncData} {p:Str} {sp:Sp} {xs:List V} {kf:V → List Int} (F:FnOk X.prog X.w X.K X.mg X.base CX0 k f fd [p] sp) (hr:Room k A) (hb:Binds X.K fd [p] [])
  (hs:∀ H1 x,Same H H1 → x ∈ xs → sp [x] H1 (fun r H2=>∃ t,r = .ref t ∧ H2 t = some (.tup ((kf x).map V.int)) ∧ Same H1 H2) E0) : zeZ X A (.ref f) H xs kf:=by
 intro pins s1 σ H1 x u I sm hx r
 have I':=I.wish (fun _ _=>False)
 refine wpAny_mono (ziy (X:=(atA X A).nox) (dvs:=[]) (ds:=[]) (vs:=[x]) F hr hb .nil zmg I' (.cons r .nil) (hs H1 x sm hx)) (fun v s2 ⟨y,H2,I2,ry,t,e,ht,sm2⟩=>?_) fun _ _ z=>z
 subst e
 cases ry
 exact ⟨t,H2,rfl,I2.unwish,ht,sm2⟩
theorem zfn {l:Addr} {f:Value} {xs:List V} {kf:V → List Int} {Q:VK} (I:Inv X pins σ H s) (hl:SqL X.K H l xs) (h64:xs.length < 64) (ne:∀ x ∈ xs,kf x ≠ []) (hc:∀ H0,Same H H0 → zeZ X X.A.in1.in1 f H0 xs kf)
  (ht:∀ a,Builtin.«list.sort» ⟨[.ref a],[(Str.ofString "key", f)]⟩ = ksk_tree a f false)
  (h:∀ D H' ys,Same H H' → H D = none → H' D = some (.lst ys) → ys.Perm xs → zaV kf ys → Q (.ref D) H') :
  wpAny (model X.prog X.w) X.A (call (.builtin "sorted") [.ref l] [(Str.ofString "key", f)]) (EP X pins σ Q) X.xe s:=by
 refine zaa ?_; intro G_; obtain ⟨us,r,pl,_⟩:=I.list hl
 have hlen:=r.length
 have hz:us.length ≤ sizeLine:=zcm (by lia)
 refine call_function_entry_kw kind_sorted plain_sorted entry_sorted (ksk_s1 _ _) ?_
 unfold Builtin.«sorted»
 refine wpAny_bind (m:=checkCount "sorted" 1 1 _) (wpAny_pure (wpAny_bind (collect_list pl.isList (wpAny_bind (wpAny_newList ?_ hz)) hz)))
 have I1:Inv X pins σ H { s with heap:=(s.heap.push (seqObj "list" #[] 0)).update s.heap.objs.size (Obj.mapSeq (· ++ us.toArray)) }:=I.kept (t':=s.toks) fun b o q=>by
  have hb:b < s.heap.objs.size:=Heap.lt_size q
  rw [Heap.get?_update_other _ _ (Nat.ne_of_gt hb)]
  exact Heap.get?_push_of_some _ q
 generalize hs1:({ s with heap:=(s.heap.push (seqObj "list" #[] 0)).update s.heap.objs.size (Obj.mapSeq (· ++ us.toArray)) } : Shared) = s1 at I1
 have I2:Inv X pins σ H { s1 with heap:=s1.heap.push (seqObj "list" us.toArray 0) }:=I1.kept (t':=s1.toks) fun b o q=>Heap.get?_push_of_some _ q
 have hD:H s1.heap.objs.size = none:=I1.fresh
 have fD:=I1.fpOk (H':=H) (Nat.le_refl _) hD
 have oD:(s1.heap.push (seqObj "list" us.toArray 0)).get? s1.heap.objs.size = some (seqObj "list" us.toArray 0):=Heap.get?_push_size _ rfl
 rw [← hs1] at oD ⊢
 refine wpAny_bind (wpAny_holding (wpAny_call_entry_kw slot_list_sort ⟨_,oD,rfl⟩ entry_list_sort ?_ (ksk_l1 _ _)))
 rw [hs1] at oD
 rw [ht]
 show wpAny _ X.A.in1.in1 (ksk_tree (({ s with heap:=(s.heap.push (seqObj "list" #[] 0)).update s.heap.objs.size (Obj.mapSeq (· ++ us.toArray)) } : Shared).heap.objs.size) f false) _ _
  { (({ s with heap:=(s.heap.push (seqObj "list" #[] 0)).update s.heap.objs.size (Obj.mapSeq (· ++ us.toArray)) } : Shared)) with heap:=(({ s with heap:=(s.heap.push (seqObj "list" #[] 0)).update s.heap.objs.size (Obj.mapSeq (· ++ us.toArray)) } : Shared)).heap.push (seqObj "list" us.toArray 0) }
 rw [hs1]
 generalize hDe:s1.heap.objs.size = D at oD hD fD
 unfold ksk_tree
 have sb:=Heap.SameBut.update (s1.heap.push (seqObj "list" us.toArray 0)) D (Obj.mapSeq fun _=>(#[] : Array Value))
 have q1:=get?_update_seq oD fun _=>(#[] : Array Value)
 have I3:=I2.turned (it:=D) (t':=s1.toks) (h':=(s1.heap.push (seqObj "list" us.toArray 0)).update D (Obj.mapSeq fun _=>(#[] : Array Value))) (fun b o hb q=>(sb.2 b hb).trans q) fD.1 fD.2.1 fD.2.2.2.1 fD.2.2.2.2.1 fD.2.2.2.2.2
 refine wpAny_bind (listItems_at oD rfl (wpAny_bind (listUpdate_at oD rfl ?_ (by rw [List.size_toArray]; exact hz) (Nat.zero_le _))))
 refine wpAny_bind (seqEpoch_at q1 rfl (wpAny_bind (wpAny_newTuple ?_ hz)))
 refine wpAny_bind (wpAny_newList ?_ (Nat.zero_le _))
 refine wpAny_holding ?_
 generalize he1:(if (#[] : Array Value).size == us.toArray.size then 0 else 0 + 1) = e1 at q1
 generalize hh3:(s1.heap.push (seqObj "list" us.toArray 0)).update D (Obj.mapSeq fun _=>(#[] : Array Value)) = h3 at q1 I3
 have I4:Inv X pins σ H { s1 with heap:=h3.push (seqObj "tuple" us.toArray 0) }:=I3.kept (s:={ s1 with heap:=h3 }) (t':=s1.toks) fun b o q=>Heap.get?_push_of_some _ q
 have hK:H (h3.push (seqObj "tuple" us.toArray 0)).objs.size = none:=I4.fresh
 have fK:=I4.fpOk (H':=H) (Nat.le_refl _) hK
 have I5:Inv X pins σ H { s1 with heap:=(h3.push (seqObj "tuple" us.toArray 0)).push (seqObj "list" #[] 0) }:=I4.kept (s:={ s1 with heap:=h3.push (seqObj "tuple" us.toArray 0) }) (t':=s1.toks) fun b o q=>Heap.get?_push_of_some _ q
 have oK:((h3.push (seqObj "tuple" us.toArray 0)).push (seqObj "list" #[] 0)).get? (h3.push (seqObj "tuple" us.toArray 0)).objs.size = some (seqObj "list" #[] 0):=Heap.get?_push_size _ rfl
 have oD2:((h3.push (seqObj "tuple" us.toArray 0)).push (seqObj "list" #[] 0)).get? D = some (seqObj "list" #[] e1):=Heap.get?_push_of_some _ (Heap.get?_push_of_some _ q1)
 have hDK:D ≠ (h3.push (seqObj "tuple" us.toArray 0)).objs.size:=Nat.ne_of_lt (Heap.lt_size (Heap.get?_push_of_some _ q1))
 show wpAny _ _ (ksk_rest D f false us.toArray e1 (.ref (h3.push (seqObj "tuple" us.toArray 0)).objs.size)) _ _ { s1 with heap:=(h3.push (seqObj "tuple" us.toArray 0)).push (seqObj "list" #[] 0) }
 generalize hkS:(h3.push (seqObj "tuple" us.toArray 0)).objs.size = kS at oK fK hDK
 generalize hs5:({ s1 with heap:=(h3.push (seqObj "tuple" us.toArray 0)).push (seqObj "list" #[] 0) } : Shared) = s5 at I5
 have oK':s5.heap.get? kS = some (seqObj "list" #[] 0):=by rw [← hs5]; exact oK
 have oD':s5.heap.get? D = some (seqObj "list" #[] e1):=by rw [← hs5]; exact oD2
 have a0:Asking X X.A.in1.in1 pins σ H D kS e1 [] s5:=⟨H,[],0,zlO I5,Same.refl _,fD,fK,oD',oK',.nil⟩
 unfold ksk_rest
 refine wpAny_bind (wpAny_rule ?_)
 rw [List.forIn_toArray]
 refine wpAny_bind (zkg hDK (hc H (Same.refl _)) (fun u s6 R h6=>?_) xs us [] s5 (fun _ z=>z) r (by rw [List.length_nil]; lia) a0 fun s6 a6=>?_)
 ·refine wpAny_bind (wpAny_attempt (wpAny_mono h6 (fun k s7 h7=>?_) fun _ _ z=>z.elim))
  exact wpAny_bind (wpAny_mono h7 (fun _ s8 h8=>wpAny_pure h8) fun _ _ z=>z)
 ·rw [List.nil_append] at a6
  refine zj7 hDK r h64 ne a6 fun s7 H7 ys I7 sm7 h7 p7 o7=>⟨.none,rfl,?_⟩
  exact wpAny_pure (exg _ rfl ⟨.ref D,H7,zn1 I7 (fun z=>I.ok.hd z) I.ok.frames,rfl,h D H7 ys sm7 hD h7 p7 o7⟩)
def zh7 (K:PySem.W.Frag) (sp:Sp) (t:TA) : TE:=fun σ H Q=>t σ H fun vs H1=>∃ l xs kf,vs = [.ref l] ∧ SqL K H1 l xs ∧ xs.length < 64 ∧ (∀ x ∈ xs,kf x ≠ []) ∧
 (∀ H2 y,Same H1 H2 → y ∈ xs → sp [y] H2 (fun r H3=>∃ t,r = .ref t ∧ H3 t = some (.tup (List.map V.int (kf y))) ∧ Same H2 H3) E0) ∧
 ∀ D H' ys,Same H1 H' → H1 D = none → H' D = some (.lst ys) → ys.Perm xs → zaV kf ys → Q (.ref D) H'
theorem zhC {k:Nat} {f:Addr} {fd:FuncData} {pn fx:Str} {sp:Sp} {e:Expr} {t:TA} {p pos fp kp:Pos} (F:FnOk X.prog X.w X.K X.mg X.base CX0 k f fd [pn] sp) (hr:Room (k + 2) X.A) (hgs:Gl X "sorted") (hms:X.mg "sorted" = none)
  (hg:Gl X fx) (hm:X.mg fx = some (.ref f)) (hb:Binds X.K fd [pn] []) (he:PA X [e] t) (hd:(fx == ("__debug__" : Str)) = false:=by decide)
  (hs:starEach [e] X.env = [(false,eval e X.env)]:=by rfl) : PE X (.Call (.Name "sorted" p) [e] [⟨some "key", .Name fx fp,kp⟩] pos) (zh7 X.K sp t):=by
 intro pins s σ H Q I h
 refine wpAny_Call_Name_kw (zez I hgs hms boot_sorted ?_)
 refine callWith_kw (thn (he pos pins s σ H _ I h) fun us s1 ⟨vs,H1,I1,r1,q1⟩=>?_) (by rw [hs]; rfl) (by rw [hs]; rfl)
 refine zaa ?_; intro G_; obtain ⟨l,xs,kf,rfl,hl,h64,ne,hk,hq⟩:=q1
 refine zaa ?_; intro G_; obtain ⟨u,rfl,ru⟩:=Vals.one r1
 cases ru
 refine thn (zmB (nm:=some "key") (kpos:=kp) (ziM (pos:=fp) (v:=.ref f) hg hm rfl hd) znx pos pins s1 σ H1 (fun zs H2=>zs = [.ref f] ∧ H2 = H1) I1 ⟨rfl,rfl⟩) fun kv s2 ⟨zs,H2,I2,r2,e2,e3⟩=>?_
 subst e2; subst e3
 refine zaa ?_; intro G_; obtain ⟨u,rfl,ru⟩:=Vals.one r2
 cases ru
 show wpAny _ _ (call (.builtin "sorted") [.ref l] [(Str.ofString "key", .ref f)]) _ _ s2
 exact zfn I2 hl h64 ne (fun H0 sm=>zhG F (hr.in1.in1) hb fun H3 y s3 hy=>hk H3 y (sm.trans s3) hy) (fun a=>ksk_t1 f a) hq
end
end L2
namespace L2
open PySem PySem.Spec PyProof.Rows
mutual
inductive Den (K:PySem.W.Frag) (H:Hp) : V → PyData → Prop
 | non:Den K H .non .none
 | bl (b:Bool) : Den K H (.bl b) (.bool b)
 | int (i:Int) : Den K H (.int i) (.int i)
 | str (x:Str) : Den K H (.str x) (.str x)
 | lst {a:Addr} {xs:List V} {ds:List PyData} : SqL K H a xs → DenAll K H xs ds → Den K H (.ref a) (.list ds)
 | tup {a:Addr} {xs:List V} {ds:List PyData} : SqT K H a xs → DenAll K H xs ds → Den K H (.ref a) (.tuple ds)
inductive DenAll (K:PySem.W.Frag) (H:Hp) : List V → List PyData → Prop
 | nil:DenAll K H [] []
 | cons {x:V} {d:PyData} {xs:List V} {ds:List PyData} : Den K H x d → DenAll K H xs ds → DenAll K H (x :: xs) (d :: ds)
end
section
variable {X:Cx} {pins:List (Addr × Obj)} {σ:St} {H H':Hp} {s:Shared}
mutual
theorem zb4 (I:Inv X pins σ H s) : ∀ {v:V} {d:PyData} {u:Value},Den X.K H v d → RelV v u → ∃ as,Reads s.heap u d as
 | _,_,_,.non,r=>by cases r; exact ⟨_,.none⟩
 | _,_,_,.bl b,r=>by cases r; exact ⟨_,.bool b⟩
 | _,_,_,.int i,r=>by obtain ⟨t,rfl⟩:=r; exact ⟨_,.int i t⟩
 | _,_,_,.str x,r=>by obtain ⟨t,rfl⟩:=r; exact ⟨_,.str x t⟩
 | _,_,_,.lst hq ha,r=>by
  cases r
  refine zaa ?_; intro G_; obtain ⟨its,rv,⟨o,n,e,c,dd,da⟩,_⟩:=I.list hq
  obtain ⟨as,q⟩:=zdC I ha rv
  exact ⟨_,.list e c da (by simpa using q)⟩
 | _,_,_,.tup hq ha,r=>by
  cases r
  refine zaa ?_; intro G_; obtain ⟨its,rv,⟨o,e,c,n,da⟩,_⟩:=I.tuple hq
  obtain ⟨as,q⟩:=zdC I ha rv
  exact ⟨_,.tuple e c da (by simpa using q)⟩
theorem zdC (I:Inv X pins σ H s) : ∀ {vs:List V} {ds:List PyData} {us:List Value},DenAll X.K H vs ds → Vals vs us → ∃ as,ReadsAll s.heap us ds as
 | _,_,_,.nil,.nil=>⟨_,.nil⟩
 | _,_,_,.cons d t,.cons r q=>by
  obtain ⟨as,h1⟩:=zb4 I d r
  obtain ⟨bs,h2⟩:=zdC I t q
  exact ⟨_,.cons h1 h2⟩
end
def rEqD (K:PySem.W.Frag) : R2:=fun x y H Q=>∃ d e,Den K H x d ∧ Den K H y e ∧ SeqAt.shaped d = true ∧ SeqAt.shaped e = true ∧ Q (.bl (PyData.eqv d e)) H
def rNeD (K:PySem.W.Frag) : R2:=fun x y H Q=>∃ d e,Den K H x d ∧ Den K H y e ∧ SeqAt.shaped d = true ∧ SeqAt.shaped e = true ∧ Q (.bl (!PyData.eqv d e)) H
theorem znw (hu:X.A.units + 64 < cLine) : OpR X (compareOp .Eq) (rEqD X.K):=by
 rintro pins s σ H x y v u Q I rx ry ⟨d,e,h1,h2,s1,s2,q⟩
 obtain ⟨as,r1⟩:=zb4 I h1 rx
 obtain ⟨bs,r2⟩:=zb4 I h2 ry
 exact eq_dataH r1 r2 s1 s2 hu ⟨.bl _,H,I,rfl,q⟩
theorem zm3 (hu:X.A.units + 64 < cLine) : OpR X (compareOp .NotEq) (rNeD X.K):=by
 rintro pins s σ H x y v u Q I rx ry ⟨d,e,h1,h2,s1,s2,q⟩
 obtain ⟨as,r1⟩:=zb4 I h1 rx
 obtain ⟨bs,r2⟩:=zb4 I h2 ry
 exact ne_dataH r1 r2 s1 s2 hu ⟨.bl _,H,I,rfl,q⟩
def zn5 (K:PySem.W.Frag) : List V → Hp → VK → Prop:=fun vs H Q=>∃ l ns,vs = [.ref l] ∧ SqL K H l (List.map V.int ns) ∧ Q (.int (List.sum ns)) H
theorem zeT (hc:X.calm = true) : zcZ X (.builtin "sum") (zn5 X.K):=by
 rintro pins s σ H vs us Q I r ⟨l,ns,e,hl,q⟩
 subst e
 refine zaa ?_; intro G_; obtain ⟨u,rfl,ru⟩:=Vals.one r
 cases ru
 refine zaa ?_; intro G_; obtain ⟨its,rv,pl,_⟩:=I.list hl
 have hi:=zd5 rv
 obtain ⟨m,F⟩:=I.fr
 have hd:X.A.handled = none:=I.ok.hd hc
 obtain ⟨xs,hx⟩:=hi.allInts.items
 have hL:s.heap.IsList l (intItems xs):=by rw [← hx]; exact pl.isList
 refine sum_intListG hd hL fun h' tk t' hk=>⟨.int _,H,I.kept hk,⟨t',?_⟩,q⟩
 have e1:(numsOf (intItems xs).toList) = ns:=by rw [← hx]; exact hi.numsOf
 rw [← e1,nums_intItems,preSum_eq,List.take_of_length_le (by simp)]
end
end L2
namespace L2
open PySem PySem.Spec PyProof.Rows
abbrev NoX:Value → Shared → Prop:=fun _ _=>False
section
variable {prog:Program} {w:World} {A:Around} {R:Result → Shared → Prop} {s:Shared}
abbrev ziJ (ifs:List Expr) (env:Env) : Sem Bool:=forIn ifs true fun c r=>if r = true then do let ok ← isTrue c env (eval c env); pure (ForInStep.yield ok) else pure (ForInStep.yield r)
theorem zhF {elt target iter:Expr} {ifs:List Expr} {scope:Scope} {pos:Pos} {it acc:Value} {env:Env} (I:Nat → Shared → Prop)
  (turn:∀ n s,I n s → wpAny (model prog w) A (pyNext it) (fun r s1=>match r with
   | none=>R (.ok .next) s1
   | some v => wpAny (model prog w) A (letOwnedTupleGo target it v) (fun _ s2 => wpAny (model prog w) A (assign target env v) (fun _ s3 => wpAny (model prog w) A (ziJ ifs env) (fun ok s4 =>
     if ok = true then wpAny (model prog w) A (eval elt env) (fun x s5=>wpAny (model prog w) A (call (.builtin "list.append") [acc,x]) (fun _ s6=>∃ m,m < n ∧ I m s6) NoX s5) NoX s4
     else ∃ m,m < n ∧ I m s4) NoX s3) NoX s2) NoX s1) NoX s)
  (n:Nat) (h:I n s) : codeAny (model prog w) A (.compLoop (.ListComp elt [⟨target,iter,ifs,0⟩] scope pos) 0 it acc env) R s:=by
 refine codeAny_loop rfl I (fun n s hI=>?_) n h
 show wpAny _ A (Sem.onRaise (compTurn (.ListComp elt [⟨target,iter,ifs,0⟩] scope pos) 0 it acc env) (fun x=>do noteFrame x env; theTreesLotGoes x)) _ _ s
 refine wpAny_noted (wpAny_mono (E:=NoX) ?_ (fun _ _ z=>z) fun _ _ z=>z.elim)
 rw [compTurn_list]
 refine wpAny_bind (wpAny_standAt (wpAny_bind (thn (turn n s hI) fun r s1 h1=>?_)))
 cases r with
 | none=>exact wpAny_pure h1
 | some v =>
  refine wpAny_bind (thn h1 fun _ s2 h2=>wpAny_bind (thn h2 fun _ s3 h3=>wpAny_bind (thn h3 fun ok s4 h4=>?_)))
  cases ok with
  | false=>exact wpAny_pure ⟨rfl,h4⟩
  | true=>exact wpAny_bind (wpAny_bind (thn h4 fun x s5 h5=>wpAny_bind (thn h5 fun _ s6 h6=>wpAny_pure (wpAny_pure ⟨rfl,h6⟩))))
end
abbrev za2 (X:Cx) (pins:List (Addr × Obj)) (scope:Scope) (cl:List (Str × Addr)) (C:Addr) (Nc:List Str) (s3:Shared) (H3:Hp) (fp:List Addr) : Cx :=
 { X with N:=Nc,s₀:=s3,H₀:=H3,env:=compEnvC scope cl C X.env,outer:=X.stack,ex:=fp,fn:=fun _=>false,pn:=X.pn ++ pins,xe:=NoX }
def capt (js:List (Option Nat)) (σ:St) : St:=js.map fun j=>match j with | some j=>(σ[j]?).join | none=>none
structure CompScope (X:Cx) (scope:Scope) (cl:List (Str × Addr)) (Nc:List Str) (js:List (Option Nat)) : Prop where
 clos:closureFor scope X.env = pure cl
 cell:∀ y ∈ scope.names,y.2 ≠ .cell
 kind:scope.kind = .function
 nms:∀ y ∈ scope.names,y.2 = .local → scope.names.lookup y.1 = some .local
 sub:∀ x c,cl.lookup x = some c → X.env.cells.lookup x = some c
 has:∀ x,((relabel scope X.env).names.lookup x = some .cell ∨ (relabel scope X.env).names.lookup x = some .free) → ∃ c,cl.lookup x = some c
 len:js.length = Nc.length
 cap:∀ (i:Nat) (x:Str) (j:Nat),Nc[i]? = some x → js[i]? = some (some j) → X.N[j]? = some x ∧ (X.env.kindOf x = some .cell ∨ X.env.kindOf x = some .free) ∧ ((relabel scope X.env).names.lookup x = some .cell ∨ (relabel scope X.env).names.lookup x = some .free)
section
variable {X:Cx} {pins:List (Addr × Obj)} {σ:St} {H:Hp} {s:Shared} {scope:Scope} {cl:List (Str × Addr)} {Nc:List Str} {js:List (Option Nat)} {C:Addr} {fp:List Addr} {h1:Heap} {tk:Nat} {m:Str → Option Value}
theorem zj8 (S:CompScope X scope cl Nc js) (I:Inv X pins σ H s) (hf:∀ b ∈ fp,FpOk X pins H b) (hfo:∀ b ∈ fp,∃ o,s.heap.get? b = some o) (hC:s.heap.objs.size ≤ C) (hn:h1.Ns C m) (k:∀ b o,s.heap.get? b = some o → h1.get? b = some o) :
  Inv (za2 X pins scope cl C Nc s H fp) [] (capt js σ) H { s with heap:=h1,toks:=tk }:=by
 have lt:∀ {b:Addr} {o:Obj},s.heap.get? b = some o → b ≠ C:=fun e=>Nat.ne_of_lt (Nat.lt_of_lt_of_le (Heap.lt_size e) hC)
 have hCn:H C = none:=I.hok.fresh hC
 have hce:∀ x c,cl.lookup x = some c → c ≠ C:=fun x c e=>by
  refine zaa ?_; intro G_; obtain ⟨v,o,ho,_⟩:=I.cell x c (S.sub x c e)
  exact lt ho
 refine ⟨⟨I.ok.mod,S.kind,I.ok.glob,I.ok.blt,hC,fun x y c e1 e2=>I.ok.inj x y c (S.sub x c e1) (S.sub y c e2),fun x hx=>S.has x hx,(fun x c z=>absurd z Bool.false_ne_true),(fun z=>I.ok.hd z),I.ok.frames,.inl rfl,fun b hb=>?_,I.bs,
  Nat.le_trans I.ok.bsz I.sz,fun b o e hb=>?_,fun b hb hs=>?_,I.stack,I.stkFree⟩,rfl,I.bare,Un.kept k,⟨m,hn,fun i x v e1 e2 e3=>?_⟩,fun x c e=>?_,hCn,fun x c e=>I.freeC x c (S.sub x c e),fun p hp=>?_,I.hok.kept k,?_⟩
 ·obtain ⟨o,ho⟩:=hfo b hb
  exact ⟨lt ho,fun x c e=>(hf b hb).2.2.2.2.1 x c (S.sub x c e)⟩
 ·rcases (hf b hb).2.2.2.1 with z | z
  ·exact I.ok.noex b o e z
  ·exact absurd (Nat.lt_of_lt_of_le (Heap.lt_size e) (Nat.le_trans I.ok.bsz z)) (Nat.lt_irrefl _)
 ·rcases List.mem_cons.mp (I.stkSub b hs) with z | z
  ·exact (hf b hb).2.1 z
  ·exact (hf b hb).2.2.1 z
 ·unfold capt at e2
  rw [List.getElem?_map] at e2
  cases ej:js[i]? with
  | none=>rw [ej] at e2; cases e2
  | some oj =>
   rw [ej] at e2
   cases oj with
   | none=>cases e2
   | some j =>
    have e2':(σ[j]?).join = some v:=Option.some.inj e2
    refine zaa ?_; intro G_; obtain ⟨c1,c2,c3⟩:=S.cap i x j e1 ej
    have e4:σ[j]? = some (some v):=by
     cases q:σ[j]? with
     | none=>rw [q] at e2'; cases e2'
     | some o=>rw [q] at e2'; cases o with
      | none=>cases e2'
      | some z=>cases e2'; rfl
    refine zaa ?_; intro G_; obtain ⟨mo,hmo,hl⟩:=I.loc
    have vis:Vis X.env.scope x:=by rcases c2 with z | z; exact .inr (.inl z); exact .inr (.inr z)
    refine zaa ?_; intro G_; obtain ⟨u,r,l⟩:=hl j x v c1 e4 vis
    refine ⟨u,r,.inr ⟨c3,?_⟩⟩
    rcases l with ⟨z,_⟩ | ⟨_,c,hc,hcell⟩
    ·rcases c2 with y | y <;> rw [z] at y <;> cases y
    ·obtain ⟨c',hc'⟩:=S.has x c3
     have:=S.sub x c' hc'
     rw [hc] at this; cases this
     refine zaa ?_; intro G_; obtain ⟨o,ho,hd⟩:=hcell
     exact ⟨c,hc',o,k c o ho,hd⟩
 ·refine zaa ?_; intro G_; obtain ⟨v,o,ho,hd⟩:=I.cell x c (S.sub x c e)
  exact ⟨v,o,k c o ho,hd⟩
 ·have hp':p ∈ X.pn ++ pins:=by simpa using hp
  refine zaa ?_; intro G_; obtain ⟨e,n,ne,nf,d⟩:=I.pin p hp'
  refine ⟨k _ _ e,n,lt e,fun z=>?_,d⟩
  rcases List.mem_cons.mp (I.stkSub p.1 z) with y | y
  ·exact ne y
  ·exact nf y
 ·show (capt js σ).length = Nc.length
  unfold capt
  rw [List.length_map]
  exact S.len
def zdE (J:It) (g:TG) (tt:TT) (te:TE) (D:Addr) (Q:VK) (σ:St) (H:Hp) : Prop :=
 ∃ W : Nat → Nat → St → Hp → Prop, (∃ m, W 0 m σ H) ∧ ∀ i m σ2 H2, W i m σ2 H2 →
  (J.stop i H2 ∧ Q (.ref D) H2) ∨ (J.go i H2 ∧ ∃ N:St → Hp → Prop,(∀ σ' H',N σ' H' → ∃ m',m' < m ∧ W (i + 1) m' σ' H') ∧
   ∀ x H',J.yld i H2 x H' → g x σ2 H' fun σ3 H3=>tt σ3 H3 fun b H4=>if b = true then te σ3 H4 fun v H5=>∃ ys,H5 D = some (.lst ys) ∧ ys.length < sizeLine ∧ N σ3 (upd H5 D (.lst (ys ++ [v]))) else N σ3 H4)
def PIf (X:Cx) (ifs:List Expr) (t:TT) : Prop :=
 ∀ (pins:List (Addr × Obj)) (s:Shared) (σ:St) (H:Hp) (Q:Bool → Hp → Prop),Inv X pins σ H s → t σ H Q → wpAny (model X.prog X.w) X.A (ziJ ifs X.env) (TP X pins σ Q) X.xe s
def tYes:TT:=fun _ H Q=>Q true H
theorem zmi:PIf X [] tYes:=fun _ _ _ H _ I h=>wpAny_tests_nil ⟨H,I,h⟩
theorem zlQ {c:Expr} {t:TT} (h:PT X c t) : PIf X [c] t:=fun pins s σ H Q I hw=>wpAny_tests_one (h pins s σ H Q I hw)
theorem zke {elt target iter:Expr} {ifs:List Expr} {pos:Pos} {g:TG} {tt:TT} {te:TE} {Q:VK} {J:It} {it D:Addr} {tn:Nat → Heap → Prop} {R:Result → Shared → Prop} {s4:Shared} {σc:St} {Hc:Hp}
  (hc:X.calm = true) (T:Turn X.prog X.w X.K target J fp it tn) (hf:∀ b ∈ fp,FpOk X pins H b)
  (hg:PG (za2 X pins scope cl C Nc s H fp) target g) (ht:PIf (za2 X pins scope cl C Nc s H fp) ifs tt) (he:PE (za2 X pins scope cl C Nc s H fp) elt te)
  (I:Inv (za2 X pins scope cl C Nc s H fp) [] σc Hc s4) (st:tn 0 s4.heap) (fr:∀ b ∈ fp,Hc b = none) (hw:zdE J g tt te D Q σc Hc)
  (h:∀ s' σ' H',Inv (za2 X pins scope cl C Nc s H fp) [] σ' H' s' → (∀ b ∈ fp,H' b = none) → Q (.ref D) H' → R (.ok .next) s') :
  codeAny (model X.prog X.w) X.A (.compLoop (.ListComp elt [⟨target,iter,ifs,0⟩] scope pos) 0 (.ref it) (.ref D) (compEnvC scope cl C X.env)) R s4:=by
 refine zaa ?_; intro G_; obtain ⟨W,⟨m0,w0⟩,turn⟩:=hw
 have ok:=I.ok
 have stat:∀ {H':Hp},(∀ b ∈ fp,H' b = none) → ∀ b ∈ fp,FpOk (za2 X pins scope cl C Nc s H fp) [] H' b:=fun hn b hb =>
  ⟨hn b hb,(ok.exf b hb).1,ok.exfs b hb,.inl hb,(ok.exf b hb).2,fun p hp=>(hf b hb).2.2.2.2.2 p (by simpa using hp)⟩
 refine zhF (fun n s'=>∃ i σ' H',Inv (za2 X pins scope cl C Nc s H fp) [] σ' H' s' ∧ tn i s'.heap ∧ (∀ b ∈ fp,H' b = none) ∧ W i n σ' H') ?_ m0 ⟨0,σc,Hc,I,st,fr,w0⟩
 intro n s5 h_
 refine zaa ?_; intro G_; obtain ⟨i,σ5,H5,I5,st5,fr5,w5⟩:=h_
 rcases turn i n σ5 H5 w5 with ⟨stop,qn⟩ | ⟨go,N,hN,step⟩
 ·refine thn (T.done (za2 X pins scope cl C Nc s H fp) rfl rfl rfl hc i [] s5 σ5 H5 NoX I5 (stat fr5) st5 stop) fun r s6 ⟨hr,I6⟩=>?_
  subst hr
  exact h s6 σ5 H5 I6 fr5 qn
 ·refine thn (T.item (za2 X pins scope cl C Nc s H fp) rfl rfl rfl hc i [] s5 σ5 H5 NoX I5 (stat fr5) st5 go) fun r s6 ⟨u,hr,h6⟩=>?_
  subst hr
  refine thn h6 fun _ s7 ⟨x,H7,I7,r7,y7,st7,fr7⟩=>?_
  have I7':=I7.pinned (stat fr7) (T.obj _ _ st7)
  refine thn (hg _ s7 σ5 H7 x u _ I7' r7 (step x H7 y7)) fun _ s8 ⟨σ8,H8,I8,q8⟩=>?_
  refine thn (ht _ s8 σ8 H8 _ I8 q8) fun b s9 ⟨H9,I9,q9⟩=>?_
  have again:∀ {σ':St} {H':Hp} {s':Shared},Inv (za2 X pins scope cl C Nc s H fp) ([] ++ zfO fp s7.heap) σ' H' s' → N σ' H' → ∃ m,m < n ∧ ∃ i σ' H',Inv (za2 X pins scope cl C Nc s H fp) [] σ' H' s' ∧ tn i s'.heap ∧ (∀ b ∈ fp,H' b = none) ∧ W i m σ' H':=fun {σ' H' s'} J' n'=>by
   refine zaa ?_; intro G_; obtain ⟨m',hm,w'⟩:=hN σ' H' n'
   have P:∀ b ∈ fp,∀ o,s7.heap.get? b = some o → s'.heap.get? b = some o ∧ H' b = none:=fun b hb o e =>
    have q:=J'.pin (b,o) (List.mem_append_right _ (List.mem_append_right _ (zbF hb e)))
    ⟨q.1,q.2.1⟩
   refine ⟨m',hm,i + 1,σ',H',J'.unpinned,T.keep _ _ _ st7 fun b hb o e=>(P b hb o e).1,fun b hb=>?_,w'⟩
   refine zaa ?_; intro G_; obtain ⟨o,e,_⟩:=T.obj _ _ st7 b hb
   exact (P b hb o e).2
  cases b with
  | false =>
   rw [if_neg (by decide)]
   exact again I9 q9
  | true =>
   rw [if_pos rfl]
   refine thn (he _ s9 σ8 H9 _ I9 q9) fun v s10 ⟨y,H10,I10,r10,ys,hD,hz,n10⟩=>?_
   refine thn (zga _ s10 σ8 H10 (.ref D) [y] (.ref D) [v] (fun _ H11=>N σ8 H11) I10 rfl (.cons r10 .nil) ⟨D,ys,y,rfl,rfl,hD,hz,n10⟩) fun _ s11 ⟨_,H11,I11,_,n11⟩=>?_
   exact again I11 n11
end
end L2
namespace L2
open PySem PySem.Spec PyProof.Rows
def zne (js:List (Option Nat)) (wi:TI) (g:TG) (tt:TT) (te:TE) : TE:=fun σ H Q=>wi σ H fun J H1=>∀ D,H1 D = none → zdE J g tt te D Q (capt js σ) (upd H1 D (.lst []))
def Inner (X:Cx) (scope:Scope) (cl:List (Str × Addr)) (Nc:List Str) (target elt:Expr) (ifs:List Expr) (g:TG) (tt:TT) (te:TE) : Prop :=
 ∀ (pins:List (Addr × Obj)) (C:Addr) (s3:Shared) (H3:Hp) (fp:List Addr),PG (za2 X pins scope cl C Nc s3 H3 fp) target g ∧ PIf (za2 X pins scope cl C Nc s3 H3 fp) ifs tt ∧ PE (za2 X pins scope cl C Nc s3 H3 fp) elt te
section
variable {X:Cx} {pins:List (Addr × Obj)} {σ:St} {H:Hp} {s:Shared} {scope:Scope} {cl:List (Str × Addr)} {Nc:List Str} {js:List (Option Nat)} {target elt iter:Expr} {ifs:List Expr} {pos:Pos} {wi:TI} {g:TG} {tt:TT} {te:TE}
theorem zhK {Q:VK} {J:It} {it:Addr} {fp:List Addr} {tn:Nat → Heap → Prop} {RR:Value → Addr → Result → Shared → Prop} {E:Value → Shared → Prop} (hc:X.calm = true) (S:CompScope X scope cl Nc js) (B:Inner X scope cl Nc target elt ifs g tt te)
  (I:Inv X pins σ H s) (T:Turn X.prog X.w X.K target J fp it tn) (st:tn 0 s.heap) (hf:∀ b ∈ fp,FpOk X pins H b) (hw:∀ D,H D = none → zdE J g tt te D Q (capt js σ) (upd H D (.lst [])))
  (h:∀ D C s' H' m,Inv X pins σ H' s' → s'.heap.Ns C m → FpOk X pins H' C → Q (.ref D) H' → RR (.ref D) C (.ok .next) s') :
  wpAny (model X.prog X.w) X.A (newList []) (fun acc s3=>wpAny (model X.prog X.w) X.A (newFunctionEnv scope X.env.globals cl [] X.env.qual none .none (some X.env)) (fun cenv s4 =>
   codeAny (model X.prog X.w) X.A (.compStart (.ListComp elt [⟨target,iter,ifs,0⟩] scope pos) 0 (.ref it) acc { cenv with scope:=relabel scope X.env }) (RR acc cenv.locals) s4) E s3) E s:=by
 have hD:H s.heap.objs.size = none:=I.fresh
 have I3:Inv X pins σ (upd H s.heap.objs.size (.lst [])) { s with heap:=s.heap.push { cls:=.type "list", data:=.seq ([] : List Value).toArray } }:=I.lnew (t':=s.toks) (its:=[]) (ys:=[]) .nil (Nat.zero_le _)
 refine wpAny_newList (wpAny_newFunctionEnv S.cell (fun y hy=>by cases hy) (fun h1 hn hsb=>?_) S.kind) (Nat.zero_le _)
 generalize hs3:({ s with heap:=s.heap.push { cls:=.type "list", data:=.seq ([] : List Value).toArray } } : Shared) = s3 at I3
 have hn':h1.Ns s3.heap.objs.size (fun x=>([] : List (Str × Value)).reverse.lookup x):=by rw [← hs3]; exact hn
 have hsb':Heap.SameBut s3.heap.objs.size (s3.heap.push { cls:=.type "dict", data:=.dict #[] }) h1:=by rw [← hs3]; exact hsb
 have kp:∀ b o,s3.heap.get? b = some o → h1.get? b = some o:=fun b o e=>(hsb'.2 b (Nat.ne_of_lt (Heap.lt_size e))).trans (Heap.get?_push_of_some _ e)
 have fpo:∀ b ∈ fp,∃ o,s.heap.get? b = some o:=fun b hb=>let ⟨o,e,_⟩:=T.obj 0 _ st b hb; ⟨o,e⟩
 have k2:∀ b o,s.heap.get? b = some o → s3.heap.get? b = some o:=fun b o e=>by rw [← hs3]; exact Heap.get?_push_of_some _ e
 have hf3:∀ b ∈ fp,FpOk X pins (upd H s.heap.objs.size (.lst [])) b:=fun b hb=>by
  refine FpOk.of (hf b hb) ?_
  obtain ⟨o,e⟩:=fpo b hb
  rw [zad (Nat.ne_of_lt (Heap.lt_size e))]
  exact (hf b hb).1
 have Ic:Inv (za2 X pins scope cl s3.heap.objs.size Nc s3 (upd H s.heap.objs.size (.lst [])) fp) [] (capt js σ) (upd H s.heap.objs.size (.lst [])) { s3 with heap:=h1,toks:=s3.toks + 0 } :=
  zj8 S I3 hf3 (fun b hb=>let ⟨o,e⟩:=fpo b hb; ⟨o,k2 b o e⟩) (Nat.le_refl _) hn' kp
 have st4:tn 0 h1:=T.keep 0 _ _ st fun b hb o e=>kp b o (k2 b o e)
 refine zaa ?_; intro G_; obtain ⟨b1,b2,b3⟩:=B pins s3.heap.objs.size s3 (upd H s.heap.objs.size (.lst [])) fp
 have loop:codeAny (model X.prog X.w) X.A (.compLoop (.ListComp elt [⟨target,iter,ifs,0⟩] scope pos) 0 (.ref it) (.ref s.heap.objs.size) (compEnvC scope cl s3.heap.objs.size X.env)) (RR (.ref s.heap.objs.size) s3.heap.objs.size) { s3 with heap:=h1,toks:=s3.toks + 0 }:=by
  refine zke hc T hf3 b1 b2 b3 Ic st4 (fun b hb=>(hf3 b hb).1) (hw _ hD) fun s' σ' H' I' fr' q'=>?_
  refine zaa ?_; intro G_; obtain ⟨m,hm,_⟩:=I'.loc
  have Io:Inv X pins σ H' s':=I3.call' (ch:=fp) I'.os I'.base I'.hok I'.bare fun b hb=>⟨(hf3 b hb).2.2.2.1,(hf3 b hb).2.1,(hf3 b hb).2.2.2.2.1,(hf3 b hb).2.2.2.2.2⟩
  exact h _ _ s' H' m Io hm (I3.fpOk (Nat.le_refl _) I'.free) q'
 exact codeAny_compStart_list loop (T.self X.A 0 _ _ _ (show tn 0 h1 from st4) loop)
theorem Inv.lettingGo {C:Addr} {h':Heap} (I:Inv X pins σ H s) (f:FpOk X pins H C) (hs:Heap.SameBut C s.heap h') : Inv X pins σ H { s with heap:=h' } :=
 I.turned (t':=s.toks) (fun b o hb e=>(hs.2 b hb).trans e) f.1 f.2.1 f.2.2.2.1 f.2.2.2.2.1 f.2.2.2.2.2
theorem zl4 (hc:X.calm = true) (S:CompScope X scope cl Nc js) (hi:PI X target iter wi) (B:Inner X scope cl Nc target elt ifs g tt te) (hs:∀ x,foldedSetIterable iter X.env x = pure x:=by intro _; rfl) :
  PE X (.ListComp elt [⟨target,iter,ifs,0⟩] scope pos) (zne js wi g tt te):=by
 intro pins s σ H Q I h
 rw [eval_ListComp]
 refine wpAny_comprehension_free (use:=none) rfl hs S.clos S.kind S.nms (thn (hi pins s σ H _ I h) fun xv s1 h1=>thn h1 fun itv s2 h2=>?_)
 refine zaa ?_; intro G_; obtain ⟨it,fp,tn,J,H2,e,I2,T,st2,f2,hw⟩:=h2
 subst e
 refine zhK hc S B I2 T st2 f2 hw fun D C s' H' m I' hm fC q=>?_
 exact ⟨m,hm,fun h' hs'=>⟨.ref D,H',I'.lettingGo fC hs',rfl,q⟩⟩
end
theorem zbL {X:Cx} {scope:Scope} {cl:List (Str × Addr)} {Nc:List Str} {js:List (Option Nat)} (clos:closureFor scope X.env = pure cl) (kind:scope.kind = .function)
  (b1:(scope.names.all fun y=>decide (y.2 ≠ .cell)) = true) (b2:(scope.names.all fun y=>decide (y.2 = .local → scope.names.lookup y.1 = some .local)) = true)
  (sub:∀ x c,(x,c) ∈ cl → X.env.cells.lookup x = some c) (b3:((relabel scope X.env).names.all fun y=>!(y.2 == .cell || y.2 == .free) || (cl.lookup y.1).isSome) = true) (len:js.length = Nc.length)
  (b4:((Nc.zip js).all fun y=>match y.2 with
   | none=>true
   | some j=>decide (X.N[j]? = some y.1) && decide (X.env.kindOf y.1 = some .cell ∨ X.env.kindOf y.1 = some .free) && decide ((relabel scope X.env).names.lookup y.1 = some .cell ∨ (relabel scope X.env).names.lookup y.1 = some .free)) = true) : CompScope X scope cl Nc js where
 clos:=clos
 cell:=fun y hy=>of_decide_eq_true (List.all_eq_true.mp b1 y hy)
 kind:=kind
 nms:=fun y hy=>of_decide_eq_true (List.all_eq_true.mp b2 y hy)
 sub:=fun x c h=>sub x c (PySem.mem_of_lookup h)
 has:=fun x hx=>by
  have go:∀ k:NameKind,(k == .cell || k == .free) = true → (relabel scope X.env).names.lookup x = some k → ∃ c,cl.lookup x = some c:=fun k hk e=>by
   have:=List.all_eq_true.mp b3 (x,k) (PySem.mem_of_lookup e)
   dsimp only at this
   rw [hk] at this
   exact Option.isSome_iff_exists.mp (by simpa using this)
  rcases hx with z | z
  ·exact go .cell rfl z
  ·exact go .free rfl z
 len:=len
 cap:=fun i x j h1 h2=>by
  have hm:(x,some j) ∈ Nc.zip js:=by
   have:(Nc.zip js)[i]? = some (x,some j):=by rw [List.getElem?_zip_eq_some]; exact ⟨h1,h2⟩
   exact List.mem_of_getElem? this
  have:=List.all_eq_true.mp b4 _ hm
  dsimp only at this
  rw [Bool.and_eq_true,Bool.and_eq_true] at this
  exact ⟨of_decide_eq_true this.1.1,of_decide_eq_true this.1.2,of_decide_eq_true this.2⟩
section
variable {g:TG} {tt:TT} {te:TE} {Q:VK} {σ:St} {H:Hp} {D:Addr}
theorem ziR {K:PySem.W.Frag} {a:Addr} {xs:List V} (Pv:Nat → List V → St → Hp → Prop) (h0:Pv 0 [] σ H) (hl:∀ i ys σ H,i ≤ xs.length → Pv i ys σ H → SqL K H a xs)
  (hs:∀ i x ys σ H,xs[i]? = some x → Pv i ys σ H → g x σ H fun σ2 H2=>tt σ2 H2 fun b H3=>if b = true then te σ2 H3 fun v H4=>∃ zs,H4 D = some (.lst zs) ∧ zs.length < sizeLine ∧ ∃ ys',Pv (i + 1) ys' σ2 (upd H4 D (.lst (zs ++ [v]))) else ∃ ys',Pv (i + 1) ys' σ2 H3)
  (hd:∀ ys σ H,Pv xs.length ys σ H → Q (.ref D) H) : zdE (Itl K a) g tt te D Q σ H:=by
 refine ⟨fun i m σ H=>m = xs.length - i ∧ i ≤ xs.length ∧ ∃ ys,Pv i ys σ H,⟨xs.length,by simp,Nat.zero_le _,[],h0⟩,?_⟩
 intro i m σ H h_
 refine zaa ?_; intro G_; obtain ⟨rfl,hi,ys,p⟩:=h_
 have q:=hl i ys σ H hi p
 by_cases hlt:i < xs.length
 ·refine .inr ⟨⟨xs,xs[i],q,by simp [hlt]⟩,fun σ' H'=>∃ ys',Pv (i + 1) ys' σ' H',fun σ' H' p'=>⟨xs.length - (i + 1),by lia,rfl,hlt,p'⟩,fun x H' y=>?_⟩
  obtain ⟨e,y⟩:=y
  subst e
  exact hs i x ys σ _ (y xs q) p
 ·have e:i = xs.length:=by lia
  subst e
  exact .inl ⟨⟨xs,q,Nat.le_refl _⟩,hd ys σ H p⟩
theorem zhy {lo:Int} {n:Nat} (Pv:Nat → St → Hp → Prop) (h0:Pv 0 σ H)
  (hs:∀ i σ H,i < n → Pv i σ H → g (.int (lo + i)) σ H fun σ2 H2=>tt σ2 H2 fun b H3=>if b = true then te σ2 H3 fun v H4=>∃ zs,H4 D = some (.lst zs) ∧ zs.length < sizeLine ∧ Pv (i + 1) σ2 (upd H4 D (.lst (zs ++ [v]))) else Pv (i + 1) σ2 H3)
  (hd:∀ σ H,Pv n σ H → Q (.ref D) H) : zdE (Itr lo n) g tt te D Q σ H:=by
 refine ⟨fun i m σ H=>m = n - i ∧ i ≤ n ∧ Pv i σ H,⟨n,by simp,Nat.zero_le _,h0⟩,?_⟩
 intro i m σ H h_
 refine zaa ?_; intro G_; obtain ⟨rfl,hi,p⟩:=h_
 by_cases hlt:i < n
 ·refine .inr ⟨hlt,fun σ' H'=>Pv (i + 1) σ' H',fun σ' H' p'=>⟨n - (i + 1),by lia,rfl,hlt,p'⟩,fun x H' y=>?_⟩
  obtain ⟨e,y⟩:=y
  subst e y
  exact hs i σ _ hlt p
 ·have e:i = n:=by lia
  subst e
  exact .inl ⟨Nat.le_refl _,hd σ H p⟩
end
end L2
namespace Wr
abbrev Stt:=Option Int × Option Int
def inS (m:Int) (s:Stt) : Bool:=(match s.1 with | none=>true | some a=>decide (a ≤ m)) && (match s.2 with | none=>true | some b=>decide (m < b))
def zag (m:Int) (l:List Stt) : Bool:=l.any (inS m)
def okS (s:Stt) : Prop:=∀ a b,s.1 = some a → s.2 = some b → a < b
def Apart (p q:Stt) : Prop:=∃ b c,p.2 = some b ∧ q.1 = some c ∧ b < c
def Can (l:List Stt) : Prop:=(∀ s ∈ l,okS s) ∧ l.Pairwise Apart
theorem zbn {m:Int} {s:Stt} : inS m s = true ↔ (∀ a,s.1 = some a → a ≤ m) ∧ (∀ b,s.2 = some b → m < b):=by
 obtain ⟨x,y⟩:=s
 cases x <;> cases y <;> simp [inS]
theorem zau {m:Int} {p:Stt} {r:List Stt} : zag m (p :: r) = true ↔ inS m p = true ∨ zag m r = true:=by
 simp [zag]
theorem zbh {m:Int} {l:List Stt} : zag m l = true ↔ ∃ s ∈ l,inS m s = true:=by simp [zag]
theorem Can.tail {p:Stt} {r:List Stt} (h:Can (p :: r)) : Can r:=⟨fun s hs=>h.1 s (List.mem_cons_of_mem _ hs),(List.pairwise_cons.mp h.2).2⟩
theorem Can.behind {p:Stt} {r:List Stt} {m:Int} (h:Can (p :: r)) (hm:zag m r = true) : ∃ b,p.2 = some b ∧ b < m:=by
 obtain ⟨q,hq,hi⟩:=zbh.mp hm
 obtain ⟨b,c,h1,h2,h3⟩:=(List.pairwise_cons.mp h.2).1 q hq
 have:=(zbn.mp hi).1 c h2
 exact ⟨b,h1,by lia⟩
theorem Can.ge {a:Int} {e:Option Int} {r:List Stt} {m:Int} (h:Can ((some a,e) :: r)) (hm:zag m ((some a,e) :: r) = true) : a ≤ m:=by
 rcases zau.mp hm with z | z
 ·exact (zbn.mp z).1 a rfl
 ·obtain ⟨b,h1,h2⟩:=h.behind z
  have:=h.1 _ List.mem_cons_self a b rfl h1
  lia
theorem okS.start {a:Int} {e:Option Int} (h:okS (some a,e)) : inS a (some a,e) = true:=by
 refine zbn.mpr ⟨fun x hx=>?_,fun b hb=>h a b rfl hb⟩
 cases hx; exact Int.le_refl _
theorem zeB {e:Option Int} {r:List Stt} {p':Stt} {r':List Stt} (h':Can (p' :: r')) (heq:∀ m,zag m ((none,e) :: r) = zag m (p' :: r')) : p'.1 = none:=by
 obtain ⟨s',e'⟩:=p'
 cases s' with
 | none=>rfl
 | some a' =>
  exfalso
  have key:∀ m:Int,inS m (none,e) = true → a' ≤ m:=fun m hm=>h'.ge (by rw [← heq]; exact zau.mpr (.inl hm))
  cases e with
  | none =>
   have:=key (a' - 1) (by simp [inS])
   lia
  | some b =>
   have:=key (min (a' - 1) (b - 1)) (by simp [inS]; lia)
   lia
theorem zdw {s:Option Int} {e e':Option Int} {r r':List Stt} (h:Can ((s,e) :: r)) (heq:∀ m,zag m ((s,e) :: r) = zag m ((s,e') :: r')) {b:Int} (hb:e = some b)
  (he:∀ b',e' = some b' → b < b') : False:=by
 have h1:inS b (s,e') = true:=zbn.mpr ⟨fun a ha=>Int.le_of_lt (h.1 _ List.mem_cons_self a b ha hb),fun b' hb'=>he b' hb'⟩
 have h2:zag b ((s,e) :: r) = true:=by rw [heq]; exact zau.mpr (.inl h1)
 rcases zau.mp h2 with z | z
 ·have:=(zbn.mp z).2 b hb
  lia
 ·obtain ⟨c,h3,h4⟩:=h.behind z
  have:e = some c:=h3
  rw [hb] at this
  cases this
  lia
theorem zbN {s:Stt} {r:List Stt} (h:okS s) : ∃ m,zag m (s :: r) = true:=by
 obtain ⟨x,y⟩:=s
 cases x with
 | some a=>exact ⟨a,zau.mpr (.inl h.start)⟩
 | none =>
  cases y with
  | none=>exact ⟨0,zau.mpr (.inl rfl)⟩
  | some b=>exact ⟨b - 1,zau.mpr (.inl (by simp [inS]; lia))⟩
theorem zjv:∀ {l l':List Stt},Can l → Can l' → (∀ m,zag m l = zag m l') → l = l'
 | [],[],_,_,_=>rfl
 | [],p' :: r',_,h',heq=>by
  obtain ⟨m,hm⟩:=zbN (r:=r') (h'.1 p' List.mem_cons_self)
  rw [← heq] at hm
  cases hm
 | p :: r,[],h,_,heq=>by
  obtain ⟨m,hm⟩:=zbN (r:=r) (h.1 p List.mem_cons_self)
  rw [heq] at hm
  cases hm
 | (s, e) :: r, (s', e') :: r', h, h', heq => by
  have es:s = s':=by
   cases s with
   | none=>exact (zeB h' heq).symm
   | some a =>
    cases s' with
    | none=>exact zeB h fun m=>(heq m).symm
    | some a' =>
     have h1:a' ≤ a:=h'.ge (by rw [← heq]; exact zau.mpr (.inl (h.1 _ List.mem_cons_self).start))
     have h2:a ≤ a':=h.ge (by rw [heq]; exact zau.mpr (.inl (h'.1 _ List.mem_cons_self).start))
     have:a = a':=by lia
     rw [this]
  subst es
  have ee : e = e' := by
   cases e with
   | none =>
    cases e' with
    | none=>rfl
    | some b'=>exact (zdw h' (fun m=>(heq m).symm) rfl fun b hb=>by cases hb).elim
   | some b =>
    cases e' with
    | none=>exact (zdw h heq rfl fun b hb=>by cases hb).elim
    | some b' =>
     by_cases h1:b < b'
     ·exact (zdw h heq rfl fun c hc=>by cases hc; exact h1).elim
     ·by_cases h2:b' < b
      ·exact (zdw h' (fun m=>(heq m).symm) rfl fun c hc=>by cases hc; exact h2).elim
      ·have:b = b':=by lia
       rw [this]
  subst ee
  have er:r = r':=by
   refine zjv h.tail h'.tail fun m=>?_
   have go:∀ {u v:List Stt},Can ((s,e) :: u) → (∀ m,zag m ((s,e) :: u) = zag m ((s,e) :: v)) → zag m u = true → zag m v = true:=fun {u v} hu hq hm=>by
    obtain ⟨b,h1,h2⟩:=hu.behind hm
    have h3:zag m ((s,e) :: v) = true:=by rw [← hq]; exact zau.mpr (.inr hm)
    rcases zau.mp h3 with z | z
    ·have:=(zbn.mp z).2 b h1
     lia
    ·exact z
   cases hx:zag m r with
   | true=>exact (go h heq hx).symm
   | false =>
    cases hy:zag m r' with
    | false=>rfl
    | true=>rw [go h' (fun m=>(heq m).symm) hy] at hx; cases hx
  rw [er]
def leO:Option Int → Option Int → Prop
 | none,_=>True
 | some _,none=>False
 | some a,some b=>a ≤ b
def zcH (p:Stt) (s:Option Int) : Bool:=(match s with | none=>true | some c=>(match p.2 with | none=>true | some b=>decide (c ≤ b)))
def zcX:Option Int → Option Int → Option Int
 | some a,some b=>some (max a b)
 | _,_=>none
structure Tidy (acc done:List Stt) : Prop where
 can:Can acc
 eq:∀ m,zag m acc = zag m done
theorem zaE {m:Int} {l r:List Stt} : zag m (l ++ r) = (zag m l || zag m r):=by simp [zag]
theorem zjX {m:Int} {p x:Stt} (h1:leO p.1 x.1) (h2:zcH p x.1 = true) (ox:okS x) : inS m (p.1,zcX p.2 x.2) = (inS m p || inS m x):=by
 obtain ⟨a,b⟩:=p
 obtain ⟨c,d⟩:=x
 have ox':=ox
 rw [Bool.eq_iff_iff,Bool.or_eq_true]
 cases a <;> cases b <;> cases c <;> cases d <;> simp_all [inS,zcX,leO,zcH,okS] <;> lia
theorem zhP:Tidy [] []:=⟨⟨(fun s hs=>nomatch hs),List.Pairwise.nil⟩,fun m=>rfl⟩
theorem zhA {x:Stt} (ox:okS x) : Tidy [x] [x]:=⟨⟨fun s hs=>by rw [List.mem_singleton.mp hs]; exact ox,List.pairwise_singleton _ _⟩,fun m=>rfl⟩
theorem zhE {init done:List Stt} {p x:Stt} (T:Tidy (init ++ [p]) done) (h1:leO p.1 x.1) (h2:zcH p x.1 = true) (ox:okS x) : Tidy (init ++ [(p.1,zcX p.2 x.2)]) (done ++ [x]):=by
 obtain ⟨⟨o,w⟩,e⟩:=T
 have w':=List.pairwise_append.mp w
 refine ⟨⟨fun s hs=>?_,List.pairwise_append.mpr ⟨w'.1,List.pairwise_singleton _ _,fun q hq z hz=>?_⟩⟩,fun m=>?_⟩
 ·rcases List.mem_append.mp hs with z | z
  ·exact o s (List.mem_append_left _ z)
  ·rw [List.mem_singleton.mp z]
   intro a b ha hb
   have op:=o p (List.mem_append_right _ (by simp))
   obtain ⟨pa,pb⟩:=p
   obtain ⟨xa,xb⟩:=x
   have ha':pa = some a:=ha
   subst ha'
   cases pb <;> cases xb <;> simp [zcX] at hb
   have:=op a _ rfl rfl
   lia
 ·rw [List.mem_singleton.mp hz]
  obtain ⟨b,c,k1,k2,k3⟩:=w'.2.2 q hq p (by simp)
  exact ⟨b,c,k1,k2,k3⟩
 ·have e':=e m
  rw [zaE] at e' ⊢
  rw [zaE,← e']
  have k:∀ s:Stt,zag m [s] = inS m s:=fun s=>by simp [zag]
  rw [k,k,k,zjX h1 h2 ox,Bool.or_assoc]
theorem zjZ {init done:List Stt} {p x:Stt} (T:Tidy (init ++ [p]) done) (h1:leO p.1 x.1) (h2:zcH p x.1 = false) (ox:okS x) : Tidy (init ++ [p] ++ [x]) (done ++ [x]):=by
 obtain ⟨⟨o,w⟩,e⟩:=T
 have w':=List.pairwise_append.mp w
 have ap:Apart p x:=by
  obtain ⟨pa,pb⟩:=p
  obtain ⟨xa,xb⟩:=x
  cases xa with
  | none=>simp [zcH] at h2
  | some c =>
   cases pb with
   | none=>simp [zcH] at h2
   | some b=>simp [zcH] at h2; exact ⟨b,c,rfl,rfl,h2⟩
 refine ⟨⟨fun s hs=>?_,List.pairwise_append.mpr ⟨w,List.pairwise_singleton _ _,fun q hq z hz=>?_⟩⟩,fun m=>?_⟩
 ·rcases List.mem_append.mp hs with z | z
  ·exact o s z
  ·rw [List.mem_singleton.mp z]; exact ox
 ·rw [List.mem_singleton.mp hz]
  rcases List.mem_append.mp hq with y | y
  ·obtain ⟨b,c,k1,k2,k3⟩:=w'.2.2 q y p (by simp)
   obtain ⟨b',c',l1,l2,l3⟩:=ap
   refine ⟨b,c',k1,l2,?_⟩
   have op:=o p (List.mem_append_right _ (by simp)) c b' k2 l1
   lia
  ·rw [List.mem_singleton.mp y]; exact ap
 ·rw [zaE (l:=init ++ [p]),zaE (l:=done),e m]
def Inc (g:List Int) : Prop:=g.Pairwise (· < ·)
def zan (g:List Int) (m:Int) : Nat:=(g.filter fun x=>decide (x ≤ m)).length
def stt (g:List Int) (f l:Nat) : Stt:=(if f = 0 then none else g[f - 1]?,g[l]?)
theorem piece_cons (x:Int) (g:List Int) (m:Int) : zan (x :: g) m = if x ≤ m then zan g m + 1 else zan g m:=by
 unfold zan
 rw [List.filter_cons]
 by_cases h:x ≤ m
 ·simp [h]
 ·simp [h]
theorem zaB (g:List Int) (m:Int) : zan g m ≤ g.length:=List.length_filter_le _ _
theorem zeA {g:List Int} {m:Int} (h:∀ x ∈ g,m < x) : zan g m = 0:=by
 unfold zan
 rw [List.length_eq_zero_iff,List.filter_eq_nil_iff]
 intro x hx
 have:=h x hx
 simp; lia
theorem zbs:∀ {g:List Int} {m:Int},Inc g → ∀ (i:Nat) (x:Int),g[i]? = some x → (x ≤ m ↔ i < zan g m)
 | [],_,_,i,x,h=>by simp at h
 | y :: g, m, hg, i, x, h => by
  obtain ⟨h1,h2⟩:=List.pairwise_cons.mp hg
  rw [piece_cons]
  cases i with
  | zero =>
   simp at h
   subst h
   by_cases hy:y ≤ m
   ·simp [hy]
   ·rw [if_neg hy,zeA fun z hz=>by have:=h1 z hz; lia]
    simp [hy]
  | succ i =>
   have h':g[i]? = some x:=by simpa using h
   have ih:=zbs (m:=m) h2 i x h'
   have hyx:=h1 x (List.mem_of_getElem? h')
   by_cases hy:y ≤ m
   ·rw [if_pos hy]; lia
   ·rw [if_neg hy,zeA fun z hz=>by have:=h1 z hz; lia]
    lia
theorem zeN {g:List Int} (hg:Inc g) {f l:Nat} (hf:f ≤ g.length) (m:Int) : inS m (stt g f l) = true ↔ f ≤ zan g m ∧ zan g m ≤ l:=by
 rw [zbn]
 unfold stt
 dsimp only
 have h1:(∀ a,(if f = 0 then none else g[f - 1]?) = some a → a ≤ m) ↔ f ≤ zan g m:=by
  by_cases h0:f = 0
  ·simp [h0]
  ·rw [if_neg h0]
   have hlt:f - 1 < g.length:=by lia
   obtain ⟨x,hx⟩ : ∃ x,g[f - 1]? = some x:=⟨g[f - 1],by simp [hlt]⟩
   have:=zbs (m:=m) hg (f - 1) x hx
   rw [hx]
   constructor
   ·intro h
    have:=h x rfl
    lia
   ·intro h a ha
    cases ha
    lia
 have h2:(∀ b,g[l]? = some b → m < b) ↔ zan g m ≤ l:=by
  cases hx:g[l]? with
  | none =>
   have:g.length ≤ l:=by simpa using hx
   have:=zaB g m
   constructor
   ·intro _; lia
   ·intro _ b hb; cases hb
  | some x =>
   have:=zbs (m:=m) hg l x hx
   constructor
   ·intro h
    have:=h x rfl
    lia
   ·intro h b hb
    cases hb
    lia
 rw [h1,h2]
theorem zgb {g:List Int} (hg:Inc g) {i j:Nat} {x y:Int} (hi:g[i]? = some x) (hj:g[j]? = some y) (h:i < j) : x < y:=by
 obtain ⟨h1,e1⟩:=List.getElem?_eq_some_iff.mp hi
 obtain ⟨h2,e2⟩:=List.getElem?_eq_some_iff.mp hj
 have:=List.pairwise_iff_getElem.mp hg i j h1 h2 h
 rw [e1,e2] at this
 exact this
theorem zlr {g:List Int} (hg:Inc g) {f l:Nat} (h:f ≤ l) : okS (stt g f l):=by
 intro a b ha hb
 unfold stt at ha hb
 dsimp only at ha hb
 by_cases h0:f = 0
 ·rw [if_pos h0] at ha; cases ha
 ·rw [if_neg h0] at ha
  exact zgb hg ha hb (by lia)
structure Runs (lit:List Bool) (R:List (Nat × Nat)) (n:Nat) : Prop where
 le:∀ r ∈ R,r.1 ≤ r.2
 lt:∀ r ∈ R,r.2 + 1 < n
 inn:∀ r ∈ R,r.2 < lit.length
 ap:R.Pairwise fun r q=>r.2 + 1 < q.1
 has:∀ k,k < n → k < lit.length → (lit[k]? = some true ↔ ∃ r ∈ R,r.1 ≤ k ∧ k ≤ r.2)
theorem zhJ (lit:List Bool) : Runs lit [] 0:=⟨(fun r h=>nomatch h),(fun r h=>nomatch h),(fun r h=>nomatch h),List.Pairwise.nil,fun k h=>absurd h (Nat.not_lt_zero _)⟩
theorem zju {lit:List Bool} {R:List (Nat × Nat)} {n:Nat} (h:Runs lit R n) (hf:n < lit.length → lit[n]? = some false) : Runs lit R (n + 1):=by
 refine ⟨h.le,fun r hr=>Nat.lt_succ_of_lt (h.lt r hr),h.inn,h.ap,fun k h1 h2=>?_⟩
 by_cases hk:k < n
 ·exact h.has k hk h2
 ·obtain rfl:k = n:=by lia
  rw [hf h2]
  constructor
  ·intro z; cases z
  ·rintro ⟨r,hr,_,h4⟩
   have:=h.lt r hr
   lia
theorem ziI {lit:List Bool} {R:List (Nat × Nat)} {n last:Nat} (h:Runs lit R n) (h1:n < last) (h2:last ≤ lit.length) (ht:∀ k,n ≤ k → k < last → lit[k]? = some true) (hf:last < lit.length → lit[last]? = some false) : Runs lit (R ++ [(n,last - 1)]) (last + 1):=by
 refine ⟨fun r hr=>?_,fun r hr=>?_,fun r hr=>?_,List.pairwise_append.mpr ⟨h.ap,List.pairwise_singleton _ _,fun r hr q hq=>?_⟩,fun k k1 k2=>?_⟩
 ·rcases List.mem_append.mp hr with z | z
  ·exact h.le r z
  ·rw [List.mem_singleton.mp z]; show n ≤ last - 1; lia
 ·rcases List.mem_append.mp hr with z | z
  ·have:=h.lt r z; lia
  ·rw [List.mem_singleton.mp z]; show last - 1 + 1 < last + 1; lia
 ·rcases List.mem_append.mp hr with z | z
  ·exact h.inn r z
  ·rw [List.mem_singleton.mp z]; show last - 1 < lit.length; lia
 ·rw [List.mem_singleton.mp hq]; exact h.lt r hr
 ·by_cases hk:k < n
  ·rw [h.has k hk k2]
   constructor
   ·rintro ⟨r,hr,z⟩; exact ⟨r,List.mem_append_left _ hr,z⟩
   ·rintro ⟨r,hr,z⟩
    rcases List.mem_append.mp hr with y | y
    ·exact ⟨r,y,z⟩
    ·rw [List.mem_singleton.mp y] at z
     have:n ≤ k:=z.1
     lia
  ·by_cases hl:k < last
   ·rw [ht k (by lia) hl]
    exact ⟨fun _=>⟨(n,last - 1),List.mem_append_right _ (by simp),by show n ≤ k; lia,by show k ≤ last - 1; lia⟩,fun _=>rfl⟩
   ·obtain rfl:k = last:=by lia
    rw [hf k2]
    constructor
    ·intro z; cases z
    ·rintro ⟨r,hr,z⟩
     rcases List.mem_append.mp hr with y | y
     ·have:=h.lt r y; lia
     ·rw [List.mem_singleton.mp y] at z
      have:k ≤ k - 1:=z.2
      lia
theorem zkj {g:List Int} {lit:List Bool} {R:List (Nat × Nat)} {n:Nat} (hg:Inc g) (hl:lit.length = g.length + 1) (hn:lit.length ≤ n) (h:Runs lit R n) :
  Can (R.map fun r=>stt g r.1 r.2) ∧ ∀ m,zag m (R.map fun r=>stt g r.1 r.2) = (lit[zan g m]?).getD false:=by
 have hb:=h.inn
 refine ⟨⟨fun s hs=>?_,?_⟩,fun m=>?_⟩
 ·obtain ⟨r,hr,rfl⟩:=List.mem_map.mp hs
  exact zlr hg (h.le r hr)
 ·rw [List.pairwise_map]
  refine h.ap.imp_of_mem fun {r q} hr hq hrq=>?_
  have b1:=hb q hq
  have b2:=h.le q hq
  have l1:r.2 < g.length:=by lia
  have l2:q.1 - 1 < g.length:=by lia
  refine ⟨g[r.2],g[q.1 - 1],?_,?_,?_⟩
  ·show g[r.2]? = _
   simp [l1]
  ·show (if q.1 = 0 then none else g[q.1 - 1]?) = _
   rw [if_neg (by lia)]
   simp [l2]
  ·exact zgb hg (i:=r.2) (j:=q.1 - 1) (by simp [l1]) (by simp [l2]) (by lia)
 ·have hp:=zaB g m
  have hk:zan g m < lit.length:=by lia
  have hh:=h.has (zan g m) (by lia) hk
  rw [Bool.eq_iff_iff]
  constructor
  ·intro hi
   obtain ⟨s,hs,hm⟩:=zbh.mp hi
   obtain ⟨r,hr,rfl⟩:=List.mem_map.mp hs
   have b1:=hb r hr
   have b2:=h.le r hr
   rw [zeN hg (by lia)] at hm
   rw [hh.mpr ⟨r,hr,hm⟩]
   rfl
  ·intro hi
   have:lit[zan g m]? = some true:=by
    cases q:lit[zan g m]? with
    | none=>rw [q] at hi; cases hi
    | some b=>rw [q] at hi; cases b with
     | true=>rfl
     | false=>cases hi
   obtain ⟨r,hr,hm⟩:=hh.mp this
   have b1:=hb r hr
   have b2:=h.le r hr
   exact zbh.mpr ⟨_,List.mem_map.mpr ⟨r,hr,rfl⟩,(zeN hg (by lia) m).mpr hm⟩
theorem zkl {g:List Int} (hg:Inc g) {k:Nat} {x:Int} (h:g[k]? = some x) : zan g x = k + 1:=by
 have h1:=(zbs (m:=x) hg k x h).mp (Int.le_refl _)
 have h2:=zaB g x
 by_cases hk:k + 1 < g.length
 ·have h3:=zbs (m:=x) hg (k + 1) g[k + 1] (by simp [hk])
  have h4:=zgb hg h (j:=k + 1) (y:=g[k + 1]) (by simp [hk]) (by lia)
  lia
 ·lia
theorem zgB {g:List Int} (hg:Inc g) {k:Nat} {x:Int} (h:g[k]? = some x) : zan g (x - 1) = k:=by
 have h1:=zbs (m:=x - 1) hg k x h
 have h0 : ¬ k < zan g (x - 1):=by lia
 cases k with
 | zero=>lia
 | succ k =>
  have hlt:k + 1 < g.length:=(List.getElem?_eq_some_iff.mp h).1
  have hk:k < g.length:=by lia
  have h3:=zbs (m:=x - 1) hg k g[k] (by simp [hk])
  have h4:=zgb hg (i:=k) (x:=g[k]) (by simp [hk]) h (by lia)
  lia
end Wr
namespace L2
open PySem PySem.Spec PyProof.Rows
structure FnP (P:Program) (w:World) (K:PySem.W.Frag) (mg:Str → Option Value) (base:Heap) (k:Nat) (x:Str) (ps:List Str) (sp:Sp) : Prop where
 ex:∃ (f:Addr) (fd:FuncData),FnOk P w K mg base CX0 k f fd ps sp ∧ mg x = some (.ref f) ∧ PySem.W.keepIn K (.ref f) = true ∧ Binds K fd ps []
section
variable {X:Cx} {k j:Nat} {x:Str} {ps:List Str} {sp:Sp} {p pos:Pos} {e:Expr} {es:List Expr} {t:TA}
theorem zoL (F:FnP X.prog X.w X.K X.mg X.base k x ps sp) (hr:Room j X.A) (ha:PA X (e :: es) t) (hj:k ≤ j:=by decide) (hg:Gl X x:=by rfl) (hdb:(x == ("__debug__" : Str)) = false:=by decide)
  (he:starEach (e :: es) X.env = (false,eval e X.env) :: starEach es X.env:=by rfl) (hpl:(backTo pos (starEach es X.env)).any (·.1) = false:=by rfl) : PE X (.Call (.Name x p) (e :: es) [] pos) (zek sp [] E0 t):=by
 refine zaa ?_; intro G_; obtain ⟨f,fd,F,hm,hk,hb⟩:=F.ex
 exact zmq F (hr.mono hj) hg hm hk hb .nil zmg ha hdb he hpl
theorem zkm {pn:Str} {fp kp:Pos} (F:FnP X.prog X.w X.K X.mg X.base k x [pn] sp) (hr:Room j X.A) (hms:X.mg "sorted" = none) (he:PA X [e] t) (hj:k + 2 ≤ j:=by decide) (hgs:Gl X "sorted" := by rfl) (hg:Gl X x:=by rfl)
  (hd:(x == ("__debug__" : Str)) = false:=by decide) (hs:starEach [e] X.env = [(false,eval e X.env)]:=by rfl) : PE X (.Call (.Name "sorted" p) [e] [⟨some "key", .Name x fp,kp⟩] pos) (zh7 X.K sp t):=by
 refine zaa ?_; intro G_; obtain ⟨f,fd,F,hm,hk,hb⟩:=F.ex
 exact zhC F (hr.mono hj) hgs hms hg hm hb he hd hs
def rIsI (K:PySem.W.Frag) : List V → Hp → VK → Prop:=fun xs H Q=>∃ y T t b,xs = [y,.ty T] ∧ TyOf K H y t ∧ PySem.W.kitOne K t (.type T) = some b ∧ Q (.bl b) H
theorem zkd:zcZ X (.builtin "isinstance") (rIsI X.K):=by
 rintro pins s σ H xs us Q I r ⟨y,T,t,b,e,ty,ek,q⟩
 subst e
 refine zaa ?_; intro G_; obtain ⟨u,w',rfl,r1,r2⟩:=vals2 r
 cases r2
 exact zfs I r1 ty ek fun tk=>⟨.bl b,H,I.tok tk,rfl,q⟩
theorem zeP (K:PySem.W.Frag) (T:String) : PySem.W.kitOne K (.type T) (.type T) = some true:=by
 unfold PySem.W.kitOne
 rw [if_pos (by simp)]
theorem znd {o:Expr} {to:TE} {apos cpos spos:Pos} (ho:PE X o to) (ha:PA X [e] t) (hbase:attributeBase o "append" X.env (eval o X.env) = eval o X.env:=by rfl)
  (hfew:((backTo cpos (starEach [e] X.env)).all (fun x=>!x.1) && (backToKw cpos (keywordEach [] X.env)).all (fun x=>x.1.isSome)
   && decide ([e].length + ([] : List Keyword).length + (if ([] : List Keyword).isEmpty then 0 else 1) < 30)) = true:=by rfl)
  (hline:(apos.endLine == cpos.line) = true:=by rfl) (hs:starEach [e] X.env = (false,eval e X.env) :: starEach [] X.env:=by rfl) (hplain:(backTo cpos (starEach [] X.env)).any (·.1) = false:=by rfl)
  (hsw:swapsWith (.Call (.Attribute o "append" apos) [e] [] cpos) none spos.line X.env = pure false:=by rfl) :
  PS X (.Expr (.Call (.Attribute o "append" apos) [e] [] cpos) spos) (zf1 (tBM X.K "list" zcq to t)) :=
 zgI (zl0 PySem.F.plainAttrs_list PySem.F.slot_list_append PySem.F.type_list_append zga ho ha hbase hfew hline hs hplain) hsw
end
open Wr in
def vO:Option Int → V
 | none=>.non
 | some i=>.int i
def dO:Option Int → PyData
 | none=>.none
 | some i=>.int i
def dS (s:Wr.Stt) : PyData:=.tuple [dO s.1,dO s.2]
def StAt (H:Hp) (v:V) (s:Wr.Stt) : Prop:=∃ t,v = .ref t ∧ H t = some (.tup [vO s.1,vO s.2])
abbrev StsAt (H:Hp) : List V → List Wr.Stt → Prop:=Paired (StAt H)
def SpanAt (H:Hp) (a:Addr) (ss:List Wr.Stt) : Prop:=∃ xs,H a = some (.lst xs) ∧ StsAt H xs ss
section
variable {K:PySem.W.Frag} {H H':Hp}
theorem StAt.same {v:V} {s:Wr.Stt} (e:Same H H') (h:StAt H v s) : StAt H' v s:=by obtain ⟨t,h1,h2⟩:=h; exact ⟨t,h1,e _ _ h2⟩
theorem StsAt.same {xs:List V} {ss:List Wr.Stt} (e:Same H H') (h:StsAt H xs ss) : StsAt H' xs ss:=Paired.mapP h fun _ _ q=>q.same e
theorem SpanAt.same {a:Addr} {ss:List Wr.Stt} (e:Same H H') (h:SpanAt H a ss) : SpanAt H' a ss:=by obtain ⟨xs,h1,h2⟩:=h; exact ⟨xs,e _ _ h1,h2.same e⟩
theorem StAt.wr {v:V} {s:Wr.Stt} {l:Addr} {o:HO} (hl:∀ xs,H l ≠ some (.tup xs)) (h:StAt H v s) : StAt (upd H l o) v s:=by
 refine zaa ?_; intro G_; obtain ⟨t,h1,h2⟩:=h
 exact ⟨t,h1,by rw [zad (fun e=>hl _ (e ▸ h2))]; exact h2⟩
theorem StsAt.wr {xs:List V} {ss:List Wr.Stt} {l:Addr} {o:HO} (hl:∀ xs,H l ≠ some (.tup xs)) (h:StsAt H xs ss) : StsAt (upd H l o) xs ss:=Paired.mapP h fun _ _ q=>q.wr hl
theorem SpanAt.wr {a:Addr} {ss:List Wr.Stt} {l:Addr} {o:HO} (hl:∀ xs,H l ≠ some (.tup xs)) (ne:a ≠ l) (h:SpanAt H a ss) : SpanAt (upd H l o) a ss:=by
 refine zaa ?_; intro G_; obtain ⟨xs,h1,h2⟩:=h
 exact ⟨xs,by rw [zad ne]; exact h1,h2.wr hl⟩
theorem za3 {l:Addr} {xs:List V} (h:H l = some (.lst xs)) : ∀ ys,H l ≠ some (.tup ys):=fun ys e=>by rw [h] at e; cases e
theorem znS (o:Option Int) : Den K H (vO o) (dO o):=by cases o with | none=>exact .non | some i=>exact .int i
theorem StAt.den {v:V} {s:Wr.Stt} (h:StAt H v s) : Den K H v (dS s):=by
 refine zaa ?_; intro G_; obtain ⟨t,rfl,h2⟩:=h
 exact .tup (SqT.of h2) (.cons (znS _) (.cons (znS _) .nil))
theorem StsAt.den:∀ {xs:List V} {ss:List Wr.Stt},StsAt H xs ss → DenAll K H xs (ss.map dS):=by
 intro xs ss p
 change Paired _ _ _ at p
 induction p with
 | nil=>exact .nil
 | cons r t ih=>exact .cons (StAt.den r) ih
theorem SpanAt.den {a:Addr} {ss:List Wr.Stt} (h:SpanAt H a ss) : Den K H (.ref a) (.list (ss.map dS)):=by
 refine zaa ?_; intro G_; obtain ⟨xs,h1,h2⟩:=h
 exact .lst (SqL.of h1) h2.den
theorem zgy {α β:Type} {R:α → β → Prop} {xs ys:List α} (p:ys.Perm xs) : ∀ {ss:List β},Paired R xs ss → ∃ ts,ts.Perm ss ∧ Paired R ys ts:=by
 induction p with
 | nil=>intro ss h; exact ⟨ss,List.Perm.refl _,h⟩
 | cons x _ ih =>
  intro ss h
  cases h with
  | cons r t =>
   refine zaa ?_; intro G_; obtain ⟨ts,p,q⟩:=ih t
   exact ⟨_ :: ts,p.cons _,.cons r q⟩
 | swap x y l =>
  intro ss h
  cases h with
  | cons r t =>
   cases t with
   | cons r' t'=>exact ⟨_ :: _ :: _,List.Perm.swap _ _ _,.cons r' (.cons r t')⟩
 | trans _ _ ih1 ih2 =>
  intro ss h
  refine zaa ?_; intro G_; obtain ⟨ts,p,q⟩:=ih2 h
  refine zaa ?_; intro G_; obtain ⟨us,p',q'⟩:=ih1 q
  exact ⟨us,p'.trans p,q'⟩
theorem zaH {α β:Type} {R:α → β → Prop} : ∀ {xs:List α} {ss:List β} {i:Nat} {x:α},Paired R xs ss → xs[i]? = some x → ∃ s,ss[i]? = some s ∧ R x s:=by
 intro xs ss i x h
 induction h generalizing i with
 | nil=>intro e; simp at e
 | cons r t ih =>
  intro e
  cases i with
  | zero=>simp at e; subst e; exact (exg _ rfl r)
  | succ i=>obtain ⟨s,h1,h2⟩:=ih (i:=i) (by simpa using e); exact ⟨s,by simpa using h1,h2⟩
theorem zc6 {α β:Type} {R:α → β → Prop} : ∀ {xs:List α} {ss:List β} {x:α},Paired R xs ss → x ∈ xs → ∃ s,s ∈ ss ∧ R x s:=by
 intro xs ss x h
 induction h with
 | nil=>intro e; cases e
 | cons r t ih =>
  intro e
  rcases List.mem_cons.mp e with z | z
  ·subst z; exact ⟨_,List.mem_cons_self,r⟩
  ·obtain ⟨s,h1,h2⟩:=ih z; exact ⟨s,List.mem_cons_of_mem _ h1,h2⟩
theorem zdc {α β:Type} {R:α → β → Prop} : ∀ {xs:List α} {init:List β} {p:β},Paired R xs (init ++ [p]) → ∃ xi x,xs = xi ++ [x] ∧ Paired R xi init ∧ R x p
 | _,[],p,h=>by
  cases h with
  | cons r t=>cases t; exact ⟨[],exg _ rfl ⟨.nil,r⟩⟩
 | _, q :: init, p, h => by
  cases h with
  | cons r t =>
   refine zaa ?_; intro G_; obtain ⟨xi,x,e,h1,h2⟩:=zdc t
   exact ⟨_ :: xi,x,by rw [e]; rfl,.cons r h1,h2⟩
end
theorem zkT:∀ (l m:List Wr.Stt),PyData.eqv (.list (l.map dS)) (.list (m.map dS)) = decide (l = m):=by
 have ho:∀ a b:Option Int,PyData.eqv (dO a) (dO b) = decide (a = b):=fun a b=>by
  cases a <;> cases b <;> simp [dO,PyData.eqv]
  rename_i x y
  by_cases h:x = y <;> simp [h]
 have all:∀ (l m:List Wr.Stt),PyData.eqvAll (l.map dS) (m.map dS) = decide (l = m):=by
  intro l
  induction l with
  | nil=>intro m; cases m <;> simp [PyData.eqvAll]
  | cons s l ih =>
   intro m
   cases m with
   | nil=>simp [PyData.eqvAll]
   | cons q m =>
    obtain ⟨a,b⟩:=s
    obtain ⟨c,d⟩:=q
    simp only [List.map_cons,PyData.eqvAll,dS,PyData.eqv,ho,ih,Bool.and_true]
    by_cases h1:a = c <;> by_cases h2:b = d <;> by_cases h3:l = m <;> simp [h1,h2,h3]
 intro l m
 rw [PyData.eqv]
 exact all l m
end L2
namespace L2
open PySem PySem.Spec PyProof.Rows
inductive Pln:Expr → Prop
 | name (x p) : Pln (.Name x p)
 | const (c j p) : Pln (.Constant c j p)
 | bin (a o b p) : Pln (.BinOp a o b p)
 | un (o a p) : Pln (.UnaryOp o a p)
 | bool (o l p) : Pln (.BoolOp o l p)
 | cmp (a o l p) : Pln (.Compare a o l p)
 | call (f a k p) : Pln (.Call f a k p)
 | sub (a b p) : Pln (.Subscript a b p)
 | attr (a b p) : Pln (.Attribute a b p)
 | tup (l k p) : Pln (.Tuple l k p)
 | lst (l p) : Pln (.List l p)
 | ife (c a b p) : Pln (.IfExp c a b p)
theorem Pln.star {e:Expr} (h:Pln e) (es:List Expr) (env:Env) : starEach (e :: es) env = (false,eval e env) :: starEach es env:=by cases h <;> rfl
theorem Pln.swap {e:Expr} (h:Pln e) (t:Option Expr) (l:Nat) (env:Env) : swapsWith e t l env = pure false:=by cases h <;> rfl
theorem Pln.fold {e:Expr} (h:Pln e) (env:Env) (x:Value) : foldedSetIterable e env x = pure x:=by cases h <;> rfl
inductive Nst:Expr → Prop
 | pln {e:Expr} (h:Pln e) : Nst e
 | comp (e g s p) : Nst (.ListComp e g s p)
 | lam (a b s p) : Nst (.Lambda a b s p)
theorem Nst.star {e:Expr} (h:Nst e) (es:List Expr) (env:Env) : starEach (e :: es) env = (false,eval e env) :: starEach es env:=by
 cases h with
 | pln h=>exact h.star es env
 | comp=>rfl
 | lam=>rfl
inductive Tru:Expr → Prop
 | name (x p) : Tru (.Name x p)
 | call (f a k p) : Tru (.Call f a k p)
 | sub (a b p) : Tru (.Subscript a b p)
 | attr (a b p) : Tru (.Attribute a b p)
theorem Tru.tru {e:Expr} (h:Tru e) (env:Env) (whole:Sem Value) : isTrue e env whole = (do let v ← whole; standAt e.pos; holding [v] (truthy v)):=by cases h <;> rfl
inductive Nsts:List Expr → Prop
 | nil:Nsts []
 | cons {e:Expr} {es:List Expr} (h:Nst e) (t:Nsts es) : Nsts (e :: es)
theorem Nsts.star {es:List Expr} (h:Nsts es) (env:Env) : starEach es env = es.map fun e=>(false,eval e env):=by
 induction h with
 | nil=>rfl
 | cons h t ih=>rw [h.star,ih]; rfl
theorem Nsts.no {es:List Expr} (h:Nsts es) (env:Env) (pos:Pos) : (backTo pos (starEach es env)).any (·.1) = false:=by
 rw [h.star]
 unfold backTo
 rw [List.map_map,List.any_map]
 simp
structure JE (X:Cx) (e:Expr) (t:TE) : Prop where
 h:PE X e t
structure JT (X:Cx) (e:Expr) (t:TT) : Prop where
 h:PT X e t
structure JW (X:Cx) (e:Expr) (t:TT) : Prop where
 h:PW X e t
structure JA (X:Cx) (es:List Expr) (t:TA) : Prop where
 h:PA X es t
 pl:Nsts es
structure JS (X:Cx) (s:Stmt) (t:TS) : Prop where
 h:PS X s t
structure JB (X:Cx) (s:List Stmt) (t:TS) : Prop where
 h:PSs X s t
structure JG (X:Cx) (e:Expr) (t:TG) : Prop where
 h:PG X e t
structure JGs (X:Cx) (e:List Expr) (t:TGs) : Prop where
 h:PGs X e t
structure JI (X:Cx) (tg e:Expr) (t:TI) : Prop where
 h:PI X tg e t
structure JOp (X:Cx) (f:Value → Value → Sem Value) (r:R2) : Prop where
 h:OpR X f r
structure JUn (X:Cx) (f:Value → Sem Value) (r:V → Hp → VK → Prop) : Prop where
 h:UnR X f r
structure JC (X:Cx) (f:Value) (r:List V → Hp → VK → Prop) : Prop where
 h:zcZ X f r
structure JIx (X:Cx) (r:R2) : Prop where
 h:IxR X r
structure JSet (X:Cx) (t:TSet) : Prop where
 h:PSet X t
section
variable {X:Cx} {k j:Nat} {x:Str} {ps:List Str} {sp:Sp} {p pos:Pos} {a b c e:Expr} {es rest:List Expr} {ta tb te:TE} {tA tB':TT} {t:TA}
theorem zbb:JOp X (binaryOp .Add) (rI0 fun i j=>.int (i + j)):=⟨zok⟩
theorem zfY:JOp X (binaryOp .Sub) (rI0 fun i j=>.int (i - j)):=⟨znp⟩
theorem zdH:JOp X (binaryOp .Mult) (rI CMul fun i j=>.int (i * j)):=⟨znC⟩
theorem zaK:JOp X (binaryOp .Mod) (rI (fun _ j=>0 < j) fun i j=>.int (i % j)):=⟨znf⟩
theorem zhl:JOp X (binaryOp .FloorDiv) (rI CDiv fun i j=>.int (i / j)):=⟨zmw⟩
theorem zmh:JOp X (binaryOp .Pow) (rI CPow fun i j=>.int (i ^ j.toNat)):=⟨znZ⟩
theorem zkp:JOp X (binaryOp .RShift) (rI (fun _ j=>0 ≤ j) fun i j=>.int (i / 2 ^ j.toNat)):=⟨znt⟩
theorem o_eq:JOp X (compareOp .Eq) rEq:=⟨zol⟩
theorem o_ne:JOp X (compareOp .NotEq) rNe:=⟨zow⟩
theorem o_lt:JOp X (compareOp .Lt) (rI0 fun i j=>.bl (decide (i < j))):=⟨zom⟩
theorem o_le:JOp X (compareOp .LtE) (rI0 fun i j=>.bl (decide (i ≤ j))):=⟨zor⟩
theorem o_gt:JOp X (compareOp .Gt) (rI0 fun i j=>.bl (decide (j < i))):=⟨zou⟩
theorem zos (hr:Room k X.A) : JOp X (compareOp .Eq) (rEqD X.K):=⟨znw hr.units⟩
theorem zkY (hr:Room k X.A) : JOp X (compareOp .NotEq) (rNeD X.K):=⟨zm3 hr.units⟩
theorem zhL:JUn X (unaryOp .USub) (rU fun i=>.int (-i)):=⟨znQ⟩
theorem zaR:JIx X (rIxL X.K):=⟨zmJ⟩
theorem zaw:JIx X (rIxT X.K):=⟨zmX⟩
theorem zdp:JC X (.builtin "len") (fun xs H Q=>∃ p ys,xs = [.ref p] ∧ (SqL X.K H p ys ∨ SqT X.K H p ys) ∧ Q (.int ys.length) H):=⟨zf4⟩
theorem zov (hc:X.calm = true:=by rfl) : JC X (.builtin "sum") (zn5 X.K):=⟨zeT hc⟩
theorem zlX:JC X (.builtin "isinstance") (rIsI X.K):=⟨zkd⟩
theorem zoo (hc:X.calm = true:=by rfl) : JC X (.builtin "max") (fun xs H Q=>∃ i j,xs = [.int i,.int j] ∧ Q (.int (if j > i then j else i)) H):=⟨zh3 hc⟩
theorem zoq (hc:X.calm = true:=by rfl) : JC X (.builtin "min") (fun xs H Q=>∃ i j,xs = [.int i,.int j] ∧ Q (.int (if j < i then j else i)) H):=⟨zix hc⟩
theorem zhb:JSet X zkC:=⟨set_list⟩
theorem e_v (i:Nat) (hN:X.N[i]? = some x:=by rfl) (hv:Vis X.env.scope x:=by first | exact Or.inl rfl | exact Or.inr (Or.inl rfl) | exact Or.inr (Or.inr rfl)) (hd:(x == ("__debug__" : Str)) = false:=by decide +kernel)
  (hcd:(x == ("__classdict__" : Str)) = false:=by decide +kernel) : JE X (.Name x pos) (tVar i):=⟨zjw hN hv hd hcd⟩
theorem e_i {i j pos} : JE X (.Constant (.int i) j pos) (tC (.int i)):=⟨znz⟩
theorem e_b {b j pos} : JE X (.Constant (.bool b) j pos) (tC (.bl b)):=⟨zoE⟩
theorem e_n {j pos} : JE X (.Constant .none j pos) (tC .non):=⟨znX⟩
theorem e_s {x j pos} : JE X (.Constant (.str x) j pos) (tC (.str x)):=⟨znm⟩
theorem e_op {op:Operator} {r:R2} (ho:JOp X (binaryOp op) r) (ha:JE X a ta) (hb:JE X b tb) : JE X (.BinOp a op b pos) (tOp r ta tb):=⟨zoz ho.h ha.h hb.h⟩
theorem e_un {op:UnaryOp} {r:V → Hp → VK → Prop} (ho:JUn X (unaryOp op) r) (ha:JE X a ta) : JE X (.UnaryOp op a pos) (tUn r ta):=⟨zoM ho.h ha.h⟩
theorem zdh {op:CmpOp} {r:R2} (ho:JOp X (compareOp op) r) (ha:JE X a ta) (hb:JE X b tb) (h1:op ≠ .In:=by decide) (h2:op ≠ .NotIn:=by decide) : JE X (.Compare a [op] [b] pos) (tOp r ta tb):=⟨zmF ho.h ha.h hb.h (zls b h1 h2)⟩
theorem ziC {j pos'} (ha:JE X a ta) : JE X (.Compare a [.Is] [.Constant .none j pos'] pos) (tIsN ta):=⟨zlA (zlu ha.h) (zcN _ (by decide) (by decide))⟩
theorem zd6 {op} (h:JE X a ta) : JE X (.BoolOp op [a] pos) ta:=⟨zni h.h⟩
theorem zgF (ha:JE X a ta) (hb:JE X (.BoolOp .And (b :: rest) pos) tb) : JE X (.BoolOp .And (a :: b :: rest) pos) (zoi ta tb):=⟨znW ha.h hb.h⟩
theorem e_or (ha:JE X a ta) (hb:JE X (.BoolOp .Or (b :: rest) pos) tb) : JE X (.BoolOp .Or (a :: b :: rest) pos) (tOrV ta tb):=⟨zoI ha.h hb.h⟩
theorem zmf (ha:JE X a ta) : JE X (.UnaryOp .Not a pos) (zm4 ta):=⟨znR ha.h⟩
theorem e_ix {r:R2} (hr:JIx X r) (ha:JE X a ta) (hb:JE X b tb) (hp:Pln b:=by constructor) : JE X (.Subscript a b pos) (tOp r ta tb):=⟨zoD hr.h ha.h hb.h (by cases hp <;> exact fun _ _=>rfl)⟩
theorem zlv {p2:Pos} (ha:JE X a ta) (hb:JE X b tb) : JE X (.Subscript a (.Slice none (some b) none p2) pos) (tSl (rSlL X.K) ta zeU (zki tb)):=⟨ze2 zlU ha.h zgE (zgv hb.h)⟩
theorem a0:JA X [] tNil:=⟨zgV,.nil⟩
theorem ac (ha:JE X e te) (hr:JA X es t) (hp:Pln e:=by constructor) : JA X (e :: es) (zax te t):=⟨zea ha.h hr.h (hp.star _ _),.cons (.pln hp) hr.pl⟩
theorem a1 (ha:JE X e te) (hp:Pln e:=by constructor) : JA X [e] (zax te tNil):=ac ha a0 hp
theorem a1c {elt:Expr} {gs:List Comprehension} {sc:Scope} (ha:JE X (.ListComp elt gs sc p) te) : JA X [.ListComp elt gs sc p] (zax te tNil):=⟨zea ha.h zgV (Nst.star (.comp ..) _ _),.cons (.comp ..) .nil⟩
theorem JA.hd (h:JA X (e :: es) t) : Nst e:=by cases h.pl with | cons a _=>exact a
theorem JA.rs (h:JA X (e :: es) t) : Nsts es:=by cases h.pl with | cons _ a=>exact a
theorem e_fn (F:FnP X.prog X.w X.K X.mg X.base k x ps sp) (hr:Room j X.A) (ha:JA X (e :: es) t) (hj:k ≤ j:=by decide) (hg:Gl X x:=by rfl) (hdb:(x == ("__debug__" : Str)) = false:=by decide +kernel) : JE X (.Call (.Name x p) (e :: es) [] pos) (zek sp [] E0 t) :=
 ⟨zoL F hr ha.h hj hg hdb (ha.hd.star _ _) (ha.rs.no _ _)⟩
theorem e_cb {id:String} {r:List V → Hp → VK → Prop} (hc:JC X (.builtin id) r) (hm:X.mg x = none) (hv:bootBuiltins x = some (.builtin id)) (ha:JA X (e :: es) t) (hg:Gl X x:=by rfl) (hn:x ≠ "__name__" := by decide +kernel) (hdb:(x == ("__debug__" : Str)) = false:=by decide +kernel) :
  JE X (.Call (.Name x p) (e :: es) [] pos) (tCB r t):=⟨zkk hc.h hg hm hv ha.h hn hdb (ha.hd.star _ _) (ha.rs.no _ _)⟩
theorem e_ct {T:String} {r:List V → Hp → VK → Prop} (hc:JC X (.type T) r) (hm:X.mg x = none) (hv:bootBuiltins x = some (.type T)) (ha:JA X (e :: es) t) (hg:Gl X x:=by rfl) (hn:x ≠ "__name__" := by decide +kernel) (hdb:(x == ("__debug__" : Str)) = false:=by decide +kernel) :
  JE X (.Call (.Name x p) (e :: es) [] pos) (tCB r t):=⟨zjl hc.h hg hm hv ha.h hn hdb (ha.hd.star _ _) (ha.rs.no _ _)⟩
theorem e_ty {T:String} (hm:X.mg x = none) (hv:bootBuiltins x = some (.type T)) (hg:Gl X x:=by rfl) (hn:x ≠ "__name__" := by decide +kernel) (hd:(x == ("__debug__" : Str)) = false:=by decide +kernel) : JE X (.Name x pos) (tC (.ty T)):=⟨zlH hg hm hv rfl hn hd⟩
theorem za5 {x1} (h:JA X es t) : JE X (.Tuple es x1 pos) (tTup t):=⟨zn6 h.h⟩
theorem zbT (h:JA X es t) : JE X (.List es pos) (tLst t):=⟨zn2 h.h⟩
theorem zmC {pn:Str} {fp kp:Pos} (F:FnP X.prog X.w X.K X.mg X.base k x [pn] sp) (hr:Room j X.A) (hms:X.mg "sorted" = none) (he:JA X [e] t) (hj:k + 2 ≤ j:=by decide) (hgs:Gl X "sorted" := by rfl) (hg:Gl X x:=by rfl)
  (hd:(x == ("__debug__" : Str)) = false:=by decide +kernel) : JE X (.Call (.Name "sorted" p) [e] [⟨some "key", .Name x fp,kp⟩] pos) (zh7 X.K sp t):=⟨zkm F hr hms he.h hj hgs hg hd (he.hd.star _ _)⟩
def JIn (X:Cx) (scope:Scope) (cl:List (Str × Addr)) (Nc:List Str) (target elt:Expr) (ifs:List Expr) (g:TG) (tt:TT) (te:TE) : Prop :=
 ∀ (pins:List (Addr × Obj)) (C:Addr) (s3:Shared) (H3:Hp) (fp:List Addr),JG (za2 X pins scope cl C Nc s3 H3 fp) target g ∧ ((ifs = [] ∧ tt = tYes) ∨ ∃ c,ifs = [c] ∧ JT (za2 X pins scope cl C Nc s3 H3 fp) c tt) ∧ JE (za2 X pins scope cl C Nc s3 H3 fp) elt te
variable {scope:Scope} {cl:List (Str × Addr)} {Nc:List Str} {js:List (Option Nat)} {target elt iter:Expr} {ifs:List Expr} {wi:TI} {g:TG} {tt:TT}
theorem JIn.inner (B:JIn X scope cl Nc target elt ifs g tt te) : Inner X scope cl Nc target elt ifs g tt te:=fun pins C s3 H3 fp=>by
 refine zaa ?_; intro G_; obtain ⟨h1,h2,h3⟩:=B pins C s3 H3 fp
 refine ⟨h1.h,?_,h3.h⟩
 rcases h2 with ⟨rfl,rfl⟩ | ⟨c,rfl,h2⟩
 ·exact zmi
 ·exact zlQ h2.h
theorem zcL (S:CompScope X scope cl Nc js) (hi:JI X target iter wi) (B:JIn X scope cl Nc target elt ifs g tt te) (hc:X.calm = true:=by rfl) (hs:Pln iter:=by constructor) : JE X (.ListComp elt [⟨target,iter,ifs,0⟩] scope pos) (zne js wi g tt te) :=
 ⟨zl4 hc S hi.h B.inner (hs.fold _)⟩
theorem zaZ {op:CmpOp} {r:R2} (ho:JOp X (compareOp op) r) (ha:JE X a ta) (hb:JE X b tb) (h1:op ≠ .In:=by decide) (h2:op ≠ .NotIn:=by decide) : JT X (.Compare a [op] [b] pos) (zhI (tOp r ta tb)):=⟨ziu ho.h ha.h hb.h (zls b h1 h2)⟩
theorem zlW {j pos'} (ha:JE X a ta) : JT X (.Compare a [.Is] [.Constant .none j pos'] pos) (tB (tIsN ta)):=⟨zlz (zlu ha.h) (zcN _ (by decide) (by decide))⟩
theorem zn7 {j pos'} (ha:JE X a ta) : JT X (.Compare a [.IsNot] [.Constant .none j pos'] pos) (tB (zlM ta)):=⟨zlz (zmu ha.h) (zcN _ (by decide) (by decide))⟩
theorem zcy (h:JE X e te) (hp:Tru e:=by constructor) : JT X e (tB te):=⟨znA h.h (hp.tru _)⟩
def tTru (K:PySem.W.Frag) (te:TE) : TT:=fun σ H Q=>te σ H fun x H'=>∃ k,TruV K x H' k ∧ Q k H'
theorem zm1 (h:JE X e te) (hp:Tru e:=by constructor) : JT X e (tTru X.K te):=⟨zk0 h.h (hp.tru _)⟩
theorem zh0 (ha:JT X a tA) : JT X (.UnaryOp .Not a pos) (tNot tA):=⟨zm7 ha.h⟩
theorem zcW (ha:JT X a tA) : JW X (.BoolOp .And [a] pos) tA:=⟨zmo ha.h⟩
theorem zkG (ha:JT X a tA) : JW X (.BoolOp .Or [a] pos) tA:=⟨znV ha.h⟩
theorem w_and (ha:JT X a tA) (hb:JW X (.BoolOp .And (b :: rest) pos) tB') : JW X (.BoolOp .And (a :: b :: rest) pos) (tAnd tA tB'):=⟨znu ha.h hb.h⟩
theorem w_or (ha:JT X a tA) (hb:JW X (.BoolOp .Or (b :: rest) pos) tB') : JW X (.BoolOp .Or (a :: b :: rest) pos) (tOr tA tB'):=⟨zot ha.h hb.h⟩
theorem JW.jt (h:JW X e tA) : JT X e tA:=⟨PW.pt h.h⟩
theorem g_n (i:Nat) (hN:X.N.Nodup) (hi:X.N[i]? = some x:=by rfl) (hx:Loc X.env.scope x:=by first | exact Or.inl rfl | exact Or.inr rfl) (hf:X.fn x = true ∨ X.env.scope.names.lookup x = some .local:=by first | exact .inl rfl | exact .inr rfl) : JG X (.Name x pos) (zaL i):=⟨zlV hN hi hx hf⟩
theorem zfA {k n:Nat} {u:TGs} (h:JGs X es u) (hc:X.calm = true:=by rfl) (hn:(assignEach es X.env).length = n:=by rfl) (hst:(assignEach es X.env).findIdx? (·.1) = none:=by rfl) : JG X (.Tuple es k pos) (gTup X.K n u):=⟨zm8 hc h.h hn hst⟩
theorem zc9:JGs X [] gNil:=⟨zms⟩
theorem zaO {u:TG} {us:TGs} (h1:JG X e u) (h2:JGs X es us) (hs:(assignEach (e :: es) X.env).map (·.2) = assign e X.env :: (assignEach es X.env).map (·.2):=by rfl) : JGs X (e :: es) (zkK u us):=⟨zky h1.h h2.h hs⟩
theorem zkz {ts:TSet} (ho:JE X a ta) (hi:JE X b tb) (hs:JSet X ts) (hp:Pln b:=by constructor) : JG X (.Subscript a b pos) (gSub ta tb ts):=⟨zm0 ho.h hi.h hs.h (by cases hp <;> exact fun _=>rfl)⟩
theorem zbe (h:JE X e te) : JI X target e (znc X.K te):=⟨zmn h.h⟩
theorem zoy (h:JE X e te) : JI X target e (iTup X.K te):=⟨zoh h.h⟩
theorem zib (hm:X.mg "range" = none) (ha:JA X [e] t) (hg:Gl X "range" := by rfl) : JI X target (.Call (.Name "range" p) [e] [] pos) (zmd t):=⟨zjC hg hm ha.h (ha.hd.star _ _)⟩
variable {s1:Stmt} {ss body orelse:List Stmt} {u u':TS}
theorem zaW:JB X [] zi3:=⟨zml⟩
theorem zaj (h:JS X s1 u) : JB X [s1] u:=⟨zjk h.h⟩
theorem zac (h:JS X s1 u) (h2:JB X ss u') : JB X (s1 :: ss) (tSeq u u'):=⟨zkR h.h h2.h⟩
theorem zam (i:Nat) {pos':Pos} (hN:X.N.Nodup) (he:JE X e te) (hp:Pln e:=by constructor) (hi:X.N[i]? = some x:=by rfl) (hx:Loc X.env.scope x:=by first | exact Or.inl rfl | exact Or.inr rfl)
  (hf:X.fn x = true ∨ X.env.scope.names.lookup x = some .local:=by first | exact .inl rfl | exact .inr rfl) : JS X (.Assign [.Name x pos'] e pos) (tAsg te (zaL i)):=⟨zh5 hN hi hx he.h (hp.swap _ _ _) hf⟩
theorem zi7 {tg:Expr} (he:JE X e te) (hg:JG X tg g) (hp:Pln e:=by constructor) (hw:swappedStores [tg] e X.env = pure none:=by rfl) (h1:(assignEach [tg] X.env).map (·.2) = [assign tg X.env]:=by rfl) : JS X (.Assign [tg] e pos) (tAsg te g) :=
 ⟨zmY he.h hg.h (hp.swap _ _ _) hw h1⟩
theorem s_if (hc:JT X c tA) (ha:JB X body u) (hb:JB X orelse u') : JS X (.If c body orelse pos) (tIfS tA u u'):=⟨zoG hc.h ha.h hb.h⟩
theorem zas (he:JE X e te) : JS X (.Return (some e) pos) (tRet te):=⟨zno he.h⟩
theorem zie (he:JE X e te) (hp:Pln e:=by constructor) : JS X (.Expr e pos) (zf1 te):=⟨zgI he.h (hp.swap _ _ _)⟩
theorem zd4 {o:Expr} {to:TE} {apos cpos spos:Pos} (ho:JE X o to) (ha:JE X e te) (hp:Pln e:=by constructor) (hbase:attributeBase o "append" X.env (eval o X.env) = eval o X.env:=by rfl) (hline:(apos.endLine == cpos.line) = true:=by rfl) :
  JS X (.Expr (.Call (.Attribute o "append" apos) [e] [] cpos) spos) (zf1 (tBM X.K "list" zcq to (zax te tNil))) :=
 ⟨znd ho.h (a1 ha hp).h hbase (by rw [hp.star]; rfl) hline (hp.star _ _) rfl (Pln.swap (.call ..) _ _ _)⟩
theorem zc3 {tg:Expr} (hi:JI X tg iter wi) (hg:JG X tg g) (hb:JB X body u) (hp:PassesOwn (model X.prog X.w) X.A X.env X.xe:=by exact PassesOwn.never) (hc:X.calm = true:=by rfl) (hs:Pln iter:=by constructor) : JS X (.For tg iter body [] pos) (tFor wi g u):=⟨zoa hp hc hi.h hg.h hb.h (hs.fold _)⟩
theorem zjp (hc:JT X c tA) (hb:JB X body u) (hp:PassesOwn (model X.prog X.w) X.A X.env X.xe:=by exact PassesOwn.never) : JS X (.While c body [] pos) (zlk tA u):=⟨zkQ hp hc.h hb.h⟩
end
section
variable {P:Program} {w:World} {K:PySem.W.Frag} {mg:Str → Option Value} {base:Heap}
theorem Fun.okJ {x qual:Str} {st:Stmt} {f:Addr} {fd:FuncData} {N ps:List Str} {k:Nat} {sp:Sp} (F:Fun K x qual st f fd) (S:FnScope N ps (zae st)) (len:∀ vs H Q E,sp vs H Q E → vs.length = ps.length)
  (hbody:∀ (cdv:Value) (A:Around) (outer:List Env) (s:Shared) (H:Hp) (vs:List V) (Q:VK) (E:XK),Room k (A.deeper (envOfC qual (zae st) s.heap.objs.size f cdv)) → sp vs H Q E →
   ∃ t,JB (cxOf CX0 P w K mg base N qual (zae st) f cdv A outer s H E).nox (za8 st) t ∧ t { nx:=fun _ H'=>Q .non H',rt:=Q } (start N vs) H) : FnOk P w K mg base CX0 (k + 1) f fd ps sp :=
 F.ok S len fun cdv A outer s H vs Q E hr h=>let ⟨t,h1,h2⟩:=hbody cdv A outer s H vs Q E hr h; ⟨t,h1.h,h2⟩
end
end L2
namespace L2
open PySem PySem.Spec PyProof.Rows
theorem pz {n:Int} (h:0 < n:=by decide) : 0 < n:=h
theorem pn {n:Int} (h:0 ≤ n:=by decide) : 0 ≤ n:=h
theorem zeM {x:Str} {A B:Prop} (h:A) : if decide (V.str x = V.str x) = true then A else B:=by rw [if_pos (by simp)]; exact h
theorem zaJ {x y:Str} {A B:Prop} (ne:x ≠ y) (h:B) : if decide (V.str x = V.str y) = true then A else B:=by rw [if_neg (by simp [ne])]; exact h
theorem zdu {ns:List Int} {i:Int} (h0:0 ≤ i) (h1:i < ns.length) : ∃ n,n ∈ ns ∧ atI (ns.map V.int) i = some (.int n):=by
 obtain ⟨j,rfl⟩ : ∃ j:Nat,i = (j:Int):=⟨i.toNat,by lia⟩
 have hl:j < ns.length:=by lia
 exact ⟨ns[j],List.getElem_mem hl,zaT (by simp [hl])⟩
structure Blts (mg:Str → Option Value) : Prop where
 sorted:mg "sorted" = none
 max:mg "max" = none
 min:mg "min" = none
 any:mg "any" = none
 all:mg "all" = none
 sum:mg "sum" = none
 len:mg "len" = none
 range:mg "range" = none
 isinstance:mg "isinstance" = none
 list:mg "list" = none
 tuple:mg "tuple" = none
 int:mg "int" = none
 bool:mg "bool" = none
 str:mg "str" = none
 dict:mg "dict" = none
 set:mg "set" = none
 zip:mg "zip" = none
 enumerate:mg "enumerate" = none
 reversed:mg "reversed" = none
theorem dI (a b:Int) : decide (V.int a = V.int b) = decide (a = b):=by
 by_cases h:a = b <;> simp [h]
theorem dB (a b:Bool) : decide (V.bl a = V.bl b) = decide (a = b):=by
 by_cases h:a = b <;> simp [h]
theorem zaU {r:List Int} {i:Nat} (h:i < r.length) : r[i] = r.getD i 0:=by simp [h]
theorem FnOk.none {P:Program} {w:World} {K:PySem.W.Frag} {mg:Str → Option Value} {base:Heap} {CX:CXT} {k:Nat} {f:Addr} {fd:FuncData} {ps:List Str} {sp:Sp} (h:∀ vs H Q E,¬ sp vs H Q E) : FnOk P w K mg base CX k f fd ps sp :=
 ⟨fun vs H Q E q=>absurd q (h vs H Q E),fun _ _ _ H _ _ vs Q E _ _ _ _ q=>absurd q (h vs H Q E)⟩
theorem zoe {xs:List Int} {i:Nat} {x:V} (h:(xs.map V.int)[i]? = some x) : ∃ c,x = V.int c:=by
 rw [List.getElem?_map] at h
 cases e:xs[i]? with
 | none=>rw [e] at h; cases h
 | some z=>rw [e] at h; exact ⟨z,(Option.some.inj h).symm⟩
def RowAt (H:Hp) (v:V) (ns:List Int) : Prop:=∃ t,v = .ref t ∧ H t = some (.tup (ns.map V.int))
theorem RowAt.same {H H':Hp} {v:V} {ns:List Int} (e:Same H H') (h:RowAt H v ns) : RowAt H' v ns:=by obtain ⟨t,h1,h2⟩:=h; exact ⟨t,h1,e _ _ h2⟩
theorem zby {ns:List Int} {i:Nat} (h:i < ns.length) : atI (ns.map V.int) (i:Int) = some (.int ns[i]):=zaT (by simp [h])
theorem cutN (xs:List V) (m:Nat) : cutV xs none (some (m:Int)) = xs.take m:=by
 unfold cutV
 have e1:HT.sIx xs.length 0 none = 0:=rfl
 have e2:HT.sIx xs.length xs.length (some (m:Int)) = min m xs.length:=HT.sIx_nat ..
 rw [e1,e2,List.drop_zero,Nat.sub_zero]
 by_cases h:m ≤ xs.length
 ·rw [Nat.min_eq_left h]
 ·rw [Nat.min_eq_right (by lia),List.take_of_length_le (Nat.le_refl _),List.take_of_length_le (by lia)]
theorem zhg (ns:List Int) (m:Nat) : cutV (ns.map V.int) none (some (m:Int)) = (ns.take m).map V.int:=by rw [cutN,List.map_take]
inductive Cond where
 | same (i j:Nat) | isv (i:Nat) (v:Int) | less (i j:Nat) | undr (i:Nat) (v:Int)
 | both (a b:Cond) | either (a b:Cond) | neg (a:Cond)
namespace Cond
def sem:Cond → List Int → Bool
 | same i j,r=>decide (r.getD i 0 = r.getD j 0)
 | isv i v,r=>decide (r.getD i 0 = v)
 | less i j,r=>decide (r.getD i 0 < r.getD j 0)
 | undr i v,r=>decide (r.getD i 0 < v)
 | both a b,r=>a.sem r && b.sem r
 | either a b,r=>a.sem r || b.sem r
 | neg a,r=>!a.sem r
def ok (n:Nat) : Cond → Prop
 | same i j=>i < n ∧ j < n
 | isv i _=>i < n
 | less i j=>i < n ∧ j < n
 | undr i _=>i < n
 | both a b=>a.ok n ∧ b.ok n
 | either a b=>a.ok n ∧ b.ok n
 | neg a=>a.ok n
def deep:Cond → Nat
 | both a b=>max a.deep b.deep + 1
 | either a b=>max a.deep b.deep + 1
 | neg a=>a.deep + 1
 | _=>0
end Cond
def CondAt (H:Hp) : V → Cond → Prop
 | v,.same i j=>∃ t,v = .ref t ∧ H t = some (.tup [.str "same", .int i,.int j])
 | v,.isv i n=>∃ t,v = .ref t ∧ H t = some (.tup [.str "is", .int i,.int n])
 | v,.less i j=>∃ t,v = .ref t ∧ H t = some (.tup [.str "below", .int i,.int j])
 | v,.undr i n=>∃ t,v = .ref t ∧ H t = some (.tup [.str "under", .int i,.int n])
 | v,.both a b=>∃ t va vb,v = .ref t ∧ H t = some (.tup [.str "both", va,vb]) ∧ CondAt H va a ∧ CondAt H vb b
 | v,.either a b=>∃ t va vb,v = .ref t ∧ H t = some (.tup [.str "either", va,vb]) ∧ CondAt H va a ∧ CondAt H vb b
 | v,.neg a=>∃ t va,v = .ref t ∧ H t = some (.tup [.str "not", va]) ∧ CondAt H va a
theorem CondAt.same {H H':Hp} (e:Same H H') : ∀ {c:Cond} {v:V},CondAt H v c → CondAt H' v c
 | .same i j,_,⟨t,h1,h2⟩=>⟨t,h1,e _ _ h2⟩
 | .isv i n,_,⟨t,h1,h2⟩=>⟨t,h1,e _ _ h2⟩
 | .less i j,_,⟨t,h1,h2⟩=>⟨t,h1,e _ _ h2⟩
 | .undr i n,_,⟨t,h1,h2⟩=>⟨t,h1,e _ _ h2⟩
 | .both a b,_,⟨t,va,vb,h1,h2,h3,h4⟩=>⟨t,va,vb,h1,e _ _ h2,CondAt.same e h3,CondAt.same e h4⟩
 | .either a b,_,⟨t,va,vb,h1,h2,h3,h4⟩=>⟨t,va,vb,h1,e _ _ h2,CondAt.same e h3,CondAt.same e h4⟩
 | .neg a,_,⟨t,va,h1,h2,h3⟩=>⟨t,va,h1,e _ _ h2,CondAt.same e h3⟩
def zfh (n:Nat) : Sp:=fun vs H Q _=>∃ (v rv:V) (c:Cond) (row:List Int),vs = [v,rv] ∧ CondAt H v c ∧ RowAt H rv row ∧ c.ok row.length ∧ c.deep < n ∧ Q (.bl (c.sem row)) H
theorem zoB {X:Cx} : JOp X (binaryOp .Add) rCat:=⟨zoc⟩
theorem zmj {X:Cx} : JC X (.type "tuple") (fun xs H Q=>∃ p ys,xs = [.ref p] ∧ ((SqL X.K H p ys ∧ ∀ l,H l = none → Q (.ref l) (upd H l (.tup ys))) ∨ (SqT X.K H p ys ∧ Q (.ref p) H))):=⟨zfi⟩
end L2
namespace L2
open PySem PySem.Spec PyProof.Rows
section
variable {κ:Type} [DecidableEq κ]
def valV (kvs:List (κ × V)) (k:κ) : Option V:=(kvs.find? fun kv=>decide (kv.1 = k)).map (·.2)
def putK (kvs:List (κ × V)) (k:κ) (v:V) : List (κ × V) :=
 if (kvs.any fun kv=>decide (kv.1 = k)) = true then kvs.map (fun kv=>if kv.1 = k then (kv.1,v) else kv) else kvs ++ [(k,v)]
theorem zcP {p:κ × V} {r:List (κ × V)} {k:κ} (e:p.1 = k) : valV (p :: r) k = some p.2:=by simp [valV,List.find?_cons,e]
theorem zbH {p:κ × V} {r:List (κ × V)} {k:κ} (e : ¬ p.1 = k) : valV (p :: r) k = valV r k:=by simp [valV,List.find?_cons,e]
theorem zfe (k:κ) : ∀ kvs:List (κ × V),(kvs.any fun kv=>decide (kv.1 = k)) = (valV kvs k).isSome
 | []=>rfl
 | p :: r=>by
  rw [List.any_cons]
  by_cases e:p.1 = k
  ·simp only [zcP e,decide_eq_true e,Bool.true_or,Option.isSome_some]
  ·rw [zbH e,decide_eq_false e,Bool.false_or]; exact zfe k r
theorem zgh (kvs:List (κ × V)) (k:κ) (v:V) : (putK kvs k v).length ≤ kvs.length + 1:=by
 unfold putK
 split
 ·rw [List.length_map]; omega
 ·rw [List.length_append,List.length_cons,List.length_nil]; omega
theorem zhp {kvs:List (κ × V)} {k:κ} (v:V) (h:valV kvs k = none) : putK kvs k v = kvs ++ [(k,v)]:=by
 unfold putK
 rw [zfe,h]
 exact if_neg (by decide)
theorem RelO.isSome_eq {o:Option V} {u:Option Value} (r:RelO o u) : o.isSome = u.isSome:=by
 cases o with
 | none=>cases u with
  | none=>rfl
  | some _=>exact (show False from r).elim
 | some _=>cases u with
  | none=>exact (show False from r).elim
  | some _=>rfl
theorem RelO.getD {o:Option V} {u:Option Value} {d:V} {d':Value} (r:RelO o u) (rd:RelV d d') : RelV (o.getD d) (u.getD d'):=by
 cases o with
 | none=>cases u with
  | none=>exact rd
  | some _=>exact (show False from r).elim
 | some _=>cases u with
  | none=>exact (show False from r).elim
  | some _=>exact r
theorem KV.val {kvs:List (κ × V)} {vs:List (κ × Value)} (r:KV kvs vs) (k:κ) : RelO (valV kvs k) (valueAt vs k):=by
 unfold KV at r
 induction r with
 | nil=>exact True.intro
 | @cons p q ps qs h t ih =>
  obtain ⟨h1,h2⟩:=h
  by_cases e:p.1 = k
  ·have e':q.1 = k:=h1.symm.trans e
   have b:valueAt (q :: qs) k = some q.2:=by simp [valueAt,List.find?_cons,e']
   rw [zcP e,b]; exact h2
  ·have e' : ¬ q.1 = k:=fun z=>e (h1.trans z)
   have b:valueAt (q :: qs) k = valueAt qs k:=by simp [valueAt,List.find?_cons,e']
   rw [zbH e,b]; exact ih
theorem KV.any {kvs:List (κ × V)} {vs:List (κ × Value)} (r:KV kvs vs) (k:κ) : (kvs.any fun kv=>decide (kv.1 = k)) = vs.any fun kv=>decide (kv.1 = k):=by
 unfold KV at r
 induction r with
 | nil=>rfl
 | cons h t ih=>rw [List.any_cons,List.any_cons,ih,h.1]
theorem KV.repl {kvs:List (κ × V)} {vs:List (κ × Value)} (r:KV kvs vs) (k:κ) {y:V} {u:Value} (ry:RelV y u) :
  KV (kvs.map fun kv=>if kv.1 = k then (kv.1,y) else kv) (vs.map fun kv=>if kv.1 = k then (kv.1,u) else kv):=by
 unfold KV at r ⊢
 induction r with
 | nil=>exact .nil
 | @cons p q ps qs h t ih =>
  rw [List.map_cons,List.map_cons]
  refine .cons ?_ ih
  obtain ⟨h1,h2⟩:=h
  by_cases e:p.1 = k
  ·rw [if_pos e,if_pos (h1.symm.trans e)]; exact ⟨h1,ry⟩
  ·rw [if_neg e,if_neg (fun z=>e (h1.trans z))]; exact ⟨h1,h2⟩
theorem KV.put {kvs:List (κ × V)} {vs:List (κ × Value)} (r:KV kvs vs) (k:κ) {y:V} {u:Value} (ry:RelV y u) : KV (putK kvs k y) (stored vs k u):=by
 unfold putK stored
 rw [r.any k]
 by_cases e:(vs.any fun kv=>decide (kv.1 = k)) = true
 ·rw [if_pos e,if_pos e]; exact r.repl k ry
 ·rw [if_neg e,if_neg e]; exact Paired.snoc r ⟨rfl,ry⟩
theorem KV.keys {kvs:List (κ × V)} {vs:List (κ × Value)} (r:KV kvs vs) : kvs.map (·.1) = vs.map (·.1):=by
 unfold KV at r
 induction r with
 | nil=>rfl
 | cons h t ih=>rw [List.map_cons,List.map_cons,ih,h.1]
theorem KV.length {kvs:List (κ × V)} {vs:List (κ × Value)} (r:KV kvs vs) : kvs.length = vs.length:=Paired.length r
end
theorem zlY {P:Program} {w:World} {k:Key} {u:Value} (r:RelV (kV k) u) : (zaC P w).is k u = true:=by
 cases k with
 | inl i=>obtain ⟨t,e⟩:=(show ∃ t,u = Value.int i t from r); subst e; exact zgd P w i t
 | inr x=>obtain ⟨t,e⟩:=(show ∃ t,u = Value.str x t from r); subst e; exact zgx P w x t
theorem zfv {P:Program} {w:World} : ∀ {ks:List Key} {us:List Value},Vals (ks.map kV) us → ItemsAre (zaC P w) ks us
 | [],_,r=>by rw [List.map_nil] at r; cases r; exact .nil
 | k :: ks,_,r=>by
  rw [List.map_cons] at r
  cases r with
  | cons h t=>exact .cons (zlY h) (zfv t)
abbrev KT (H:Hp) : List (List Key × V) → List (List Key × Addr × Value) → Prop:=Paired fun p q=>p.1 = q.1 ∧ H q.2.1 = some (.tup (p.1.map kV)) ∧ RelV p.2 q.2.2
theorem KT.val {H:Hp} {kvs:List (List Key × V)} {xs:List (List Key × Addr × Value)} (r:KT H kvs xs) (k:List Key) : RelO (valV kvs k) ((atKey xs k).map (·.2)):=by
 induction r with
 | nil=>exact True.intro
 | @cons p q ps qs h t ih =>
  obtain ⟨h1,_,h2⟩:=h
  by_cases e:p.1 = k
  ·have e':q.1 = k:=h1.symm.trans e
   have b:atKey (q :: qs) k = some q.2:=by simp [atKey,List.find?_cons,e']
   rw [zcP e,b]; exact h2
  ·have e' : ¬ q.1 = k:=fun z=>e (h1.trans z)
   have b:atKey (q :: qs) k = atKey qs k:=by simp [atKey,List.find?_cons,e']
   rw [zbH e,b]; exact ih
theorem KT.repl {H:Hp} {kvs:List (List Key × V)} {xs:List (List Key × Addr × Value)} (r:KT H kvs xs) (k:List Key) {y:V} {u:Value} (ry:RelV y u) :
  KT H (kvs.map fun kv=>if kv.1 = k then (kv.1,y) else kv) (xs.map (putAt k u)):=by
 induction r with
 | nil=>exact .nil
 | @cons p q ps qs h t ih =>
  rw [List.map_cons,List.map_cons]
  refine .cons ?_ ih
  obtain ⟨h1,h2,h3⟩:=h
  unfold putAt
  by_cases e:p.1 = k
  ·rw [if_pos e,if_pos (h1.symm.trans e)]; exact ⟨h1,h2,ry⟩
  ·rw [if_neg e,if_neg (fun z=>e (h1.trans z))]; exact ⟨h1,h2,h3⟩
theorem KT.put {H:Hp} {kvs:List (List Key × V)} {xs:List (List Key × Addr × Value)} (r:KT H kvs xs) (k:List Key) {b:Addr} {y:V} {u:Value} (hb:H b = some (.tup (k.map kV))) (ry:RelV y u) :
  KT H (putK kvs k y) (storedH xs k b u):=by
 have e:(kvs.any fun kv=>decide (kv.1 = k)) = (atKey xs k).isSome:=by
  rw [zfe,(r.val k).isSome_eq,Option.isSome_map]
 unfold putK storedH
 rw [e]
 by_cases q:(atKey xs k).isSome = true
 ·rw [if_pos q,if_pos q]; exact r.repl k ry
 ·rw [if_neg q,if_neg q]; exact Paired.snoc r ⟨rfl,hb,ry⟩
theorem KT.keeps {H H':Hp} {kvs:List (List Key × V)} {xs:List (List Key × Addr × Value)} (r:KT H kvs xs) (ht:∀ b ys,H b = some (.tup ys) → H' b = some (.tup ys)) : KT H' kvs xs :=
 Paired.mapP r fun _ _ z=>⟨z.1,ht _ _ z.2.1,z.2.2⟩
section
variable {P:Program} {w:World} {H:Hp} {h:Heap} {a:Addr}
theorem znI {u:HO} (ok:HOk P w H h) (e:Rd H a u) : ObjOk P w H h a u:=e.ok ok
theorem zjo {kvs:List (Key × V)} (ok:HOk P w H h) (e:Rd H a (.dK kvs)) : kvs.length ≤ sizeLine ∧ (a == sysModules) = false ∧ ∃ vs,KV kvs vs ∧ h.DictOf (zaC P w) a vs :=
 show ObjOk P w H h a (.dK kvs) from znI ok e
theorem zoF {kvs:List (Key × V)} (ok:HOk P w H h) (e:H a = some (.dK kvs)) : kvs.length ≤ sizeLine ∧ (a == sysModules) = false ∧ ∃ vs,KV kvs vs ∧ h.DictOf (zaC P w) a vs:=zjo ok (.inl e)
theorem zhq {ks:List Key} (ok:HOk P w H h) (e:H a = some (.tup (ks.map kV))) : (tupleKind (zaC P w)).is h ks a:=by
 obtain ⟨_,its,r,o,h1,h2,n,h3⟩:=(show ObjOk P w H h a (.tup (ks.map kV)) from ok a _ e)
 exact ⟨o,its.toArray,n,h1,h2,h3,by simpa using zfv r⟩
theorem zhR {kvs:List (List Key × V)} (ok:HOk P w H h) (e:Rd H a (.dT kvs)) : kvs.length ≤ sizeLine ∧ (a == sysModules) = false ∧
  ∃ xs,KT H kvs xs ∧ h.DictOfH (tupleKind (zaC P w)) a xs:=by
 obtain ⟨z,y,xs,r,o,es,ep,h1,h2,h3,h4,h5⟩:=(show ObjOk P w H h a (.dT kvs) from znI ok e)
 refine ⟨z,y,xs,r,o,es,ep,h1,h2,h3,h4,fun x hx=>?_,h5⟩
 have all:∀ {l:List (List Key × V)} {m:List (List Key × Addr × Value)},KT H l m → ∀ x ∈ m,(tupleKind (zaC P w)).is h x.1 x.2.1:=by
  intro l m q
  induction q with
  | nil=>intro x hx; exact nomatch hx
  | @cons p q ps qs hq t ih =>
   intro x hx
   rcases List.mem_cons.mp hx with e | hx
   ·subst e
    exact zhq ok (by rw [← hq.1]; exact hq.2.1)
   ·exact ih x hx
 exact all r x hx
theorem zoH {kvs:List (List Key × V)} (ok:HOk P w H h) (e:H a = some (.dT kvs)) : kvs.length ≤ sizeLine ∧ (a == sysModules) = false ∧
  ∃ xs,KT H kvs xs ∧ h.DictOfH (tupleKind (zaC P w)) a xs:=zhR ok (.inl e)
end
def DGet (H:Hp) (a:Addr) (y:V) (r:Option V) : Prop :=
 (∃ kvs k,Rd H a (.dK kvs) ∧ y = kV k ∧ r = valV kvs k) ∨ ∃ kvs k b,Rd H a (.dT kvs) ∧ y = .ref b ∧ H b = some (.tup (k.map kV)) ∧ r = valV kvs k
theorem DGet.k {H:Hp} {a:Addr} {kvs:List (Key × V)} {k:Key} (e:H a = some (.dK kvs)) : DGet H a (kV k) (valV kvs k):=.inl ⟨kvs,k,.inl e,rfl,rfl⟩
theorem DGet.t {H:Hp} {a b:Addr} {kvs:List (List Key × V)} {k:List Key} (e:H a = some (.dT kvs)) (eb:H b = some (.tup (k.map kV))) : DGet H a (.ref b) (valV kvs k):=.inr ⟨kvs,k,b,.inl e,rfl,eb,rfl⟩
section
variable {X:Cx} {pins:List (Addr × Obj)} {σ:St} {H:Hp} {s:Shared} {a:Addr} {y v:V} {u r:Value} {o:Option V} {A:Around} {E:Value → Shared → Prop}
theorem Inv.big (I:Inv X pins σ H s) : sysModules < s.heap.objs.size:=by
 have h:mainGlobals < s.heap.objs.size:=(I.mod.glob.keeps I.bk).lt
 exact Nat.lt_trans (by decide) h
theorem ziA {Q:Value → Shared → Prop} (hu:A.units + 1 < cLine) (I:Inv X pins σ H s) (g:DGet H a y (some v)) (ry:RelV y u) (h:∀ w' s',Inv X pins σ H s' → RelV v w' → Q w' s') :
  wpAny (model X.prog X.w) A (getItem (.ref a) u) Q E s:=by
 rcases g with ⟨kvs,k,e,ey,l⟩ | ⟨kvs,k,b,e,ey,eb,l⟩
 ·subst ey
  obtain ⟨z,hd,vs,rel,dd⟩:=zjo I.hok e
  obtain ⟨w',hw,rw'⟩:=RelO.some_of (v:=v) (o:=valueAt vs k) (by rw [l]; exact rel.val k)
  exact wpAny_getItem_of (zlY ry) dd.mapOf hw (h w' _ (I.tok _) rw')
 ·subst ey
  cases (show u = Value.ref b from ry)
  obtain ⟨z,hd,xs,rel,dd⟩:=zhR I.hok e
  obtain ⟨w',hw,rw'⟩:=RelO.some_of (v:=v) (o:=(atKey xs k).map (·.2)) (by rw [l]; exact rel.val k)
  obtain ⟨p,hp,hp2⟩:=Option.map_eq_some_iff.mp hw
  refine wpAny_getItem_heap (tupleKind_room_in1 hu) (zhq I.hok eb) dd hp ?_
  rw [hp2]
  exact h w' _ (I.tok _) rw'
theorem d_in {Q:Value → Shared → Prop} (hu:A.units + 1 < cLine) (I:Inv X pins σ H s) (g:DGet H a y o) (ry:RelV y u) (h:∀ s',Inv X pins σ H s' → Q (.bool o.isSome) s') :
  wpAny (model X.prog X.w) A (compareOp .In u (.ref a)) Q E s:=by
 rcases g with ⟨kvs,k,e,ey,l⟩ | ⟨kvs,k,b,e,ey,eb,l⟩
 ·subst ey
  obtain ⟨z,hd,vs,rel,dd⟩:=zjo I.hok e
  refine wpAny_in_of (zlY ry) hd dd.mapOf ?_
  rw [← (rel.val k).isSome_eq,← l]
  exact h _ (I.tok _)
 ·subst ey
  cases (show u = Value.ref b from ry)
  obtain ⟨z,hd,xs,rel,dd⟩:=zhR I.hok e
  refine wpAny_in_heap (tupleKind_room_in1 hu) (zhq I.hok eb) hd dd ?_
  have q:=(rel.val k).isSome_eq
  rw [Option.isSome_map] at q
  rw [← q,← l]
  exact h _ (I.tok _)
theorem zl3 {h':Heap} {t':Nat} {ob:HO} (I:Inv X pins σ H s) (mu:Mut (H a)) (hs:Heap.SameBut a s.heap h') (he:∃ q,h'.get? a = some q) (new:ObjOk X.prog X.w (upd H a ob) h' a ob) :
  Inv X pins σ (upd H a ob) { s with heap:=h',toks:=t' } :=
 I.write (x:=a) (e:=a) mu (.inl rfl) (fun b q hb z=>(hs.2 b hb).trans z) he new
end
section
variable {X:Cx} {pins:List (Addr × Obj)} {σ:St} {H:Hp} {s:Shared} {a:Addr} {kvs:List (Key × V)} {k:Key} {u:Value} {A:Around} {E:Value → Shared → Prop}
end
def NoSl (i:Expr) : Prop:=∀ ov iv,subscripted i false ov iv = operate [ov,iv] (getItem ov iv)
theorem zmP {prog:Program} {w:World} {A:Around} {E:Value → Shared → Prop} {s:Shared} {env:Env} {value slice:Expr} {pos:Pos} {T id:String} {Q:Value → Shared → Prop}
  (hl:typeLookup (.type T) "__getitem__" = pure (some (.builtin id))) (hs:NoSl slice)
  (h:wpAny (model prog w) A (eval value env) (fun o s₁=>wpAny (model prog w) A (eval slice env) (fun i s₂=>s₂.TypeIs o T ∧ wpAny (model prog w) A (getItem o i) Q E s₂) E s₁) E s) :
  wpAny (model prog w) A (eval (.Subscript value slice pos) env) Q E s:=by
 refine Subscript_ (wpAny_mono h (fun o s₁ h₁=>wpAny_mono h₁ (fun i s₂ h₂=>?_) fun _ _ x=>x) fun _ _ x=>x)
 obtain ⟨hT,h₂⟩:=h₂
 unfold subscriptTail
 refine wpAny_bind ?_
 rw [getitemInPython_of_ne hT.not_modules]
 refine wpAny_bind (wpAny_specialOf hT hl ?_)
 have fin:wpAny (model prog w) A (subscripted slice false o i) (fun r s₃=>wpAny (model prog w) A (letTemporaryGo value o r >>= fun _=>pure r) Q E s₃) E s₂:=by
  rw [hs o i]
  exact wpAny_operating (wpAny_mono h₂ (fun r s₃ h₃=>wpAny_bind (wpAny_letTemporaryGo (wpAny_pure h₃))) fun _ _ x=>x)
 first
  | exact wpAny_pure (wpAny_bind fin)
  | exact wpAny_bind (wpAny_pure (wpAny_bind fin))
  | exact wpAny_bind fin
theorem zgg {X:Cx} {pins:List (Addr × Obj)} {σ:St} {H:Hp} {s:Shared} {a:Addr} {y:V} {o:Option V} (I:Inv X pins σ H s) (g:DGet H a y o) : s.TypeIs (.ref a) "dict" := by
 rcases g with ⟨kvs,k,e,_,_⟩ | ⟨kvs,k,b,e,_,_,_⟩
 ·obtain ⟨_,_,vs,_,dd⟩:=zjo I.hok e
  exact dd.typeIs
 ·obtain ⟨_,_,xs,_,dd⟩:=zhR I.hok e
  exact dd.typeIs
def zhV (td ty:TE) : TE:=fun σ H Q=>td σ H fun x H1=>ty σ H1 fun y H2=>∃ a v,x = .ref a ∧ DGet H2 a y (some v) ∧ Q v H2
def tDIn (ty td:TE) : TE:=fun σ H Q=>ty σ H fun y H1=>td σ H1 fun x H2=>∃ a o,x = .ref a ∧ DGet H2 a y o ∧ Q (.bl o.isSome) H2
section
variable {X:Cx} {o i e value:Expr} {pos pos' tpos:Pos} {td ty tv:TE}
theorem zme (hu:X.A.units + 1 < cLine) (ho:PE X o td) (hi:PE X i ty) (hs:NoSl i) : PE X (.Subscript o i pos) (zhV td ty):=by
 intro pins s σ H Q I h
 refine zmP PySem.F.slot_dict_getitem.lookup hs (thn (ho pins s σ H _ I h) fun u s1 ⟨x,H1,I1,rx,q1⟩=>thn (hi pins s1 σ H1 _ I1 q1) fun iv s2 ⟨y,H2,I2,ry,a,v,ex,g,q2⟩=>?_)
 subst ex
 obtain rfl:u = Value.ref a:=rx
 exact ⟨zgg I2 g,ziA hu I2 g ry fun w' s3 I3 rw'=>⟨v,H2,I3,rw',q2⟩⟩
theorem znN (hu:X.A.units + 1 < cLine) (hi:PE X i ty) (ho:PE X o td) : PC X .In i o (tDIn ty td):=by
 intro pins s σ H Q I h
 refine thn (hi pins s σ H _ I h) fun iv s1 ⟨y,H1,I1,ry,q1⟩=>thn (ho pins s1 σ H1 _ I1 q1) fun u s2 ⟨x,H2,I2,rx,a,ov,ex,g,q2⟩=>?_
 subst ex
 obtain rfl:u = Value.ref a:=rx
 exact d_in hu I2 g ry fun s3 I3=>⟨.bl ov.isSome,H2,I3,rfl,q2⟩
end
theorem zko {P:Program} {w:World} {H:Hp} (h:Heap) (hb:sysModules < h.objs.size) : ObjOk P w H (h.push { cls:=.type "dict", data:=.dict #[] }) h.objs.size (.dT []) :=
 ⟨Nat.zero_le _,beq_eq_false_iff_ne.mpr (Ne.symm (Nat.ne_of_lt hb)),[],.nil,_,#[],0,Heap.get?_push_size _ rfl,⟨rfl,rfl,rfl⟩,rfl,rfl,List.nodup_nil⟩
def zlh:TE:=fun _ H Q=>∀ p,H p = none → Q (.ref p) (upd H p (.dT []))
section
variable {X:Cx} {pos:Pos}
theorem zkE:PE X (.Dict [] [] pos) zlh:=fun pins s σ H Q I h =>
 wpAny_Dict_empty ⟨.ref s.heap.objs.size,_,I.laid (a:=s.heap.objs.size) (o:=.dT []) (t':=s.toks) (fun _ _ q=>Heap.get?_push_of_some _ q) (Nat.le_refl _) (zko s.heap I.big),rfl,h _ (I.hok.fresh (Nat.le_refl _))⟩
end
def zm2 (kvs more:List (Key × V)) : List (Key × V):=more.foldl (fun acc kv=>putK acc kv.1 kv.2) kvs
theorem KV.merge:∀ {more:List (Key × V)} {rs:List (Key × Value)} {kvs:List (Key × V)} {vs:List (Key × Value)},KV more rs → KV kvs vs → KV (zm2 kvs more) (merged vs rs):=by
 intro more rs kvs vs r
 unfold KV at r
 induction r generalizing kvs vs with
 | nil=>intro q; exact q
 | @cons p q ps qs h t ih =>
  intro r0
  have e:KV (putK kvs p.1 p.2) (stored vs q.1 q.2):=by
   have:=r0.put p.1 h.2
   rw [← h.1]; exact this
  exact ih e
def IsD (H:Hp) (a:Addr) : Prop:=(∃ kvs,Rd H a (.dK kvs)) ∨ ∃ kvs,Rd H a (.dT kvs)
theorem znM {X:Cx} {pins:List (Addr × Obj)} {σ:St} {H:Hp} {s:Shared} {a:Addr} (I:Inv X pins σ H s) (d:IsD H a) :
  s.TypeIs (.ref a) "dict" ∧ (∀ b,Value.ref a = .ref b → ∃ ob,s.heap.get? b = some ob ∧ ob.dict = none) ∧ (a == sysModules) = false:=by
 rcases d with ⟨kvs,e⟩ | ⟨kvs,e⟩
 ·obtain ⟨_,hd,vs,_,dd⟩:=zjo I.hok e
  refine ⟨dd.typeIs,fun b q=>?_,hd⟩
  cases q
  obtain ⟨ob,_,_,h1,h2,_⟩:=dd
  exact ⟨ob,h1,h2.2.1⟩
 ·obtain ⟨_,hd,xs,_,dd⟩:=zhR I.hok e
  refine ⟨dd.typeIs,fun b q=>?_,hd⟩
  cases q
  obtain ⟨ob,_,_,h1,h2,_⟩:=dd
  exact ⟨ob,h1,h2.2.1⟩
section
variable {X:Cx} {pins:List (Addr × Obj)} {σ:St} {H:Hp} {s:Shared} {a:Addr} {y d:V} {u r:Value} {o:Option V} {A:Around} {E:Value → Shared → Prop}
end
section
variable {X:Cx} {o e f:Expr} {apos cpos:Pos} {td ty tx:TE}
end
section
variable {X:Cx} {pins:List (Addr × Obj)} {σ:St} {H:Hp} {s:Shared} {a:Addr} {kvs:List (Key × V)} {A:Around} {E:Value → Shared → Prop}
end
section
variable {X:Cx} {pins:List (Addr × Obj)} {σ:St} {H:Hp} {s:Shared} {a:Addr} {y:V} {u:Value} {A:Around} {E:Value → Shared → Prop}
end
end L2
namespace L2
open PySem PySem.Spec PyProof.Rows
section
variable {κ:Type} [DecidableEq κ]
end
end L2
namespace Wr
open PySem SetTable
def it (m:Nat) : Nat → Nat → Nat
 | 0,i=>i
 | s + 1,i=>it m s ((i * 5 + 1) % m)
def orb (m:Nat) : Nat → Nat → List Nat
 | 0,_=>[]
 | s + 1,i=>i :: orb m s ((i * 5 + 1) % m)
def cyc (m:Nat) : Bool:=(List.range m).all (fun e=>(orb m m 0).contains e) && it m m 0 == 0
theorem zgf:∀ m ∈ [8,16,32,64,128,256,512],cyc m = true:=by decide +kernel
theorem zid (m a b i:Nat) : it m (a + b) i = it m b (it m a i):=by
 induction a generalizing i with
 | zero=>rw [Nat.zero_add]; rfl
 | succ a ih=>rw [Nat.succ_add]; exact ih _
theorem zli {m:Nat} : ∀ {n i e:Nat},e ∈ orb m n i → ∃ s,s < n ∧ it m s i = e
 | 0,_,_,h=>by cases h
 | n + 1, i, e, h => by
  rcases List.mem_cons.mp h with z | z
  ·exact ⟨0,Nat.succ_pos _,z.symm⟩
  ·obtain ⟨s,h1,h2⟩:=zli z
   exact ⟨s + 1,by lia,h2⟩
theorem zir {m:Nat} (h:cyc m = true) {i e:Nat} (hi:i < m) (he:e < m) : ∃ s,s < m ∧ it m s i = e:=by
 unfold cyc at h
 rw [Bool.and_eq_true] at h
 have hz:it m m 0 = 0:=eq_of_beq h.2
 have at0:∀ x,x < m → ∃ s,s < m ∧ it m s 0 = x:=fun x hx=>by
  have:=List.all_eq_true.mp h.1 x (List.mem_range.mpr hx)
  exact zli (List.contains_iff_mem.mp this)
 obtain ⟨s1,h1,e1⟩:=at0 i hi
 obtain ⟨s2,h2,e2⟩:=at0 e he
 by_cases hs:s1 ≤ s2
 ·refine ⟨s2 - s1,by lia,?_⟩
  have:=zid m s1 (s2 - s1) 0
  rw [show s1 + (s2 - s1) = s2 by lia,e1,e2] at this
  exact this.symm
 ·refine ⟨m - s1 + s2,by lia,?_⟩
  have:=zid m s1 (m - s1 + s2) 0
  rw [show s1 + (m - s1 + s2) = m + s2 by lia,e1,zid,hz,e2] at this
  exact this.symm
def lseq (mask:Nat) : Nat → Nat → Nat → Nat × Nat
 | 0,i,p=>(i,p)
 | t + 1,i,p=>lseq mask t (leap mask i p).1 (leap mask i p).2
theorem zjW (mask a b:Nat) : ∀ i p,lseq mask (a + b) i p = lseq mask b (lseq mask a i p).1 (lseq mask a i p).2:=by
 induction a with
 | zero=>intro i p; rw [Nat.zero_add]; rfl
 | succ a ih=>intro i p; rw [Nat.succ_add]; exact ih _ _
theorem zc8 (mask:Nat) : ∀ t i p,(lseq mask t i p).2 = p / 32 ^ t
 | 0,_,p=>by simp [lseq]
 | t + 1,i,p=>by
  show (lseq mask t (leap mask i p).1 (p / 32)).2 = _
  rw [zc8 mask t,Nat.div_div_eq_div_mul,Nat.pow_succ,Nat.mul_comm 32]
theorem zi8 (mask:Nat) : ∀ t i p,i < mask + 1 → (lseq mask t i p).1 < mask + 1
 | 0,_,_,h=>h
 | t + 1,i,p,h=>zi8 mask t _ _ (Nat.mod_lt _ (Nat.succ_pos _))
theorem zfx (mask:Nat) : ∀ t i,(lseq mask t i 0).1 = it (mask + 1) t i
 | 0,_=>rfl
 | t + 1,i=>by
  show (lseq mask t (leap mask i 0).1 (leap mask i 0).2).1 = it (mask + 1) t ((i * 5 + 1) % (mask + 1))
  have:leap mask i 0 = ((i * 5 + 1) % (mask + 1),0):=by simp [leap]
  rw [this]
  exact zfx mask t _
theorem zim (h:Int) : bits h < 2 ^ 64:=by
 unfold bits
 have h1:=Int.emod_nonneg h (show (2 ^ 64:Int) ≠ 0 by decide)
 have h2:=Int.emod_lt_of_pos h (show (0:Int) < 2 ^ 64 by decide)
 lia
theorem reach {mask:Nat} (hc:cyc (mask + 1) = true) (i:Nat) (hi:i < mask + 1) (p:Nat) (hp:p < 2 ^ 64) (e:Nat) (he:e < mask + 1) : ∃ t,t < mask + 15 ∧ (lseq mask t i p).1 = e:=by
 have h13:(lseq mask 13 i p).2 = 0:=by
  rw [zc8]
  exact Nat.div_eq_of_lt (Nat.lt_of_lt_of_le hp (by decide))
 obtain ⟨s,hs,es⟩:=zir hc (zi8 mask 13 i p hi) he
 refine ⟨13 + s,by lia,?_⟩
 rw [zjW,h13,zfx]
 exact es
theorem zjr (mask i:Nat) : i ≤ runEnd mask i:=by unfold runEnd; split <;> lia
theorem zfC {mask:Nat} {owner:Array (Option Nat)} : ∀ (fuel i p:Nat),(∃ t,t < fuel ∧ owner.getD (lseq mask t i p).1 (some 0) = none) → ∃ j,layClean.free mask owner fuel i p = some j ∧ owner.getD j (some 0) = none
 | 0,_,_,⟨t,h,_⟩=>absurd h (Nat.not_lt_zero _)
 | fuel + 1, i, p, ⟨t, h, e⟩ => by
  unfold layClean.free
  cases hf:(List.range (runEnd mask i + 1 - i)).find? fun k=>(owner.getD (i + k) (some 0)).isNone with
  | some k =>
   have:=List.find?_some hf
   exact ⟨i + k,rfl,Option.isNone_iff_eq_none.mp this⟩
  | none =>
   have hn:=List.find?_eq_none.mp hf
   cases t with
   | zero =>
    exfalso
    have:=hn 0 (List.mem_range.mpr (by have:=zjr mask i; lia))
    apply this
    have e':owner.getD i (some 0) = none:=e
    rw [Nat.add_zero,e']
    rfl
   | succ t=>exact zfC fuel _ _ ⟨t,by lia,e⟩
def live (mask:Nat) (owner:Array (Option Nat)) : List Nat:=(List.range (mask + 1)).filterMap fun j=>owner.getD j none
theorem zcM {f g:Nat → Option Nat} {j k:Nat} (hf:f j = none) (hg:g j = some k) (ho:∀ i,i ≠ j → f i = g i) : ∀ {l:List Nat},l.Nodup → j ∈ l → (l.filterMap g).Perm (k :: l.filterMap f)
 | [],_,h=>by cases h
 | x :: l, nd, h => by
  obtain ⟨n1,n2⟩:=List.nodup_cons.mp nd
  by_cases e:x = j
  ·subst e
   have same:l.filterMap g = l.filterMap f:=by
    have:∀ (r:List Nat),(∀ y ∈ r,y ≠ x) → r.filterMap g = r.filterMap f:=by
     intro r
     induction r with
     | nil=>intro _; rfl
     | cons y r ih =>
      intro hr
      rw [List.filterMap_cons,List.filterMap_cons,ho y (hr y List.mem_cons_self),ih fun z hz=>hr z (List.mem_cons_of_mem _ hz)]
    exact this l fun y hy z=>n1 (z ▸ hy)
   rw [List.filterMap_cons_some hg,List.filterMap_cons_none hf,same]
  ·have hl:j ∈ l:=by
    rcases List.mem_cons.mp h with z | z
    ·exact absurd z.symm e
    ·exact z
   have ih:=zcM hf hg ho n2 hl
   cases hx:f x with
   | none=>rw [List.filterMap_cons_none hx,List.filterMap_cons_none ((ho x e) ▸ hx)]; exact ih
   | some y =>
    rw [List.filterMap_cons_some hx,List.filterMap_cons_some ((ho x e) ▸ hx)]
    exact (ih.cons y).trans (List.Perm.swap _ _ _)
theorem zjq {owner:Array (Option Nat)} {j:Nat} (h:owner.getD j (some 0) = none) : j < owner.size ∧ owner.getD j none = none:=by
 by_cases hj:j < owner.size
 ·refine ⟨hj,?_⟩
  simp [Array.getD,hj] at h ⊢
  exact h
 ·simp [Array.getD,hj] at h
theorem zkF {mask:Nat} {owner:Array (Option Nat)} (hs:owner.size = mask + 1) {j k:Nat} (h:owner.getD j (some 0) = none) : (live mask (owner.setIfInBounds j (some k))).Perm (k :: live mask owner):=by
 obtain ⟨hj,hn⟩:=zjq h
 refine zcM (f:=fun i=>owner.getD i none) (j:=j) hn ?_ (fun i hi=>?_) List.nodup_range (List.mem_range.mpr (by lia))
 ·simp [Array.getD,hj]
 ·show owner.getD i none = (owner.setIfInBounds j (some k)).getD i none
  by_cases hi2:i < owner.size
  ·simp [Array.getD,hi2,Array.getElem_setIfInBounds,Ne.symm hi]
  ·simp [Array.getD,hi2]
theorem zjA {mask:Nat} {owner:Array (Option Nat)} (h:(live mask owner).length < mask + 1) : ∃ e,e < mask + 1 ∧ owner.getD e none = none:=by
 apply Classical.byContradiction
 intro hn
 have all:∀ (l:List Nat),(∀ e ∈ l,e < mask + 1) → (l.filterMap fun j=>owner.getD j none).length = l.length:=by
  intro l
  induction l with
  | nil=>intro _; rfl
  | cons x l ih =>
   intro hl
   cases hx:owner.getD x none with
   | none=>exact absurd ⟨x,hl x List.mem_cons_self,hx⟩ hn
   | some y=>rw [List.filterMap_cons_some (f:=fun j=>owner.getD j none) hx,List.length_cons,List.length_cons,ih fun e he=>hl e (List.mem_cons_of_mem _ he)]
 have:=all (List.range (mask + 1)) fun e he=>List.mem_range.mp he
 rw [List.length_range] at this
 unfold live at h
 lia
theorem zhm {mask:Nat} (hc:cyc (mask + 1) = true) : ∀ (hs:List Int) (owner:Array (Option Nat)) (k:Nat),owner.size = mask + 1 → (live mask owner).Perm (List.range k) → k + hs.length ≤ mask →
  ∃ owner', (hs.foldl (init := some (owner, k)) fun acc h => do
    let (owner,k) ← acc
    let j ← layClean.free mask owner (turns mask) (bits h % (mask + 1)) (bits h)
    pure (owner.setIfInBounds j (some k),k + 1)) = some (owner',k + hs.length) ∧ owner'.size = mask + 1 ∧ (live mask owner').Perm (List.range (k + hs.length))
 | [],owner,k,h1,h2,_=>⟨owner,rfl,h1,h2⟩
 | h :: hs, owner, k, h1, h2, h3 => by
  rw [List.length_cons] at h3
  have hl:(live mask owner).length = k:=by rw [h2.length_eq,List.length_range]
  obtain ⟨e,he,hn⟩:=zjA (mask:=mask) (owner:=owner) (by omega)
  have hn':owner.getD e (some 0) = none:=by
   have hs':e < owner.size:=by lia
   simp [Array.getD,hs'] at hn ⊢
   exact hn
  obtain ⟨t,ht,et⟩:=reach hc (bits h % (mask + 1)) (Nat.mod_lt _ (Nat.succ_pos _)) (bits h) (zim h) e he
  obtain ⟨j,ej,hj⟩:=zfC (mask:=mask) (owner:=owner) (turns mask) (bits h % (mask + 1)) (bits h) ⟨t,ht,by rw [et]; exact hn'⟩
  have p2:(live mask (owner.setIfInBounds j (some k))).Perm (List.range (k + 1)):=by
   refine (zkF h1 hj).trans ?_
   rw [List.range_succ]
   exact (h2.cons k).trans (List.perm_append_comm (l₁:=[k]) (l₂:=List.range k))
  obtain ⟨o',q1,q2,q3⟩:=zhm hc hs (owner.setIfInBounds j (some k)) (k + 1) (by simpa using h1) p2 (by omega)
  refine ⟨o',?_,q2,?_⟩
  ·rw [List.foldl_cons]
   show List.foldl _ (do
    let j ← layClean.free mask owner (turns mask) (bits h % (mask + 1)) (bits h)
    pure (owner.setIfInBounds j (some k),k + 1)) hs = _
   rw [ej]
   rw [List.length_cons,show k + (hs.length + 1) = k + 1 + hs.length by lia]
   exact q1
  ·rw [List.length_cons,show k + (hs.length + 1) = k + 1 + hs.length by lia]
   exact q3
theorem zf6 {mask:Nat} (hc:cyc (mask + 1) = true) (finger moves:Nat) (led plain:Bool) (hashes:Array Int) (h:hashes.size ≤ mask) :
  ∃ t order,SetTable.laid mask finger moves led plain hashes = some (t,order) ∧ t.mask = mask ∧ t.dummies = #[] ∧ t.finger = finger ∧ t.led = led ∧ t.plain = plain ∧ t.place.size = hashes.size ∧ order.toList.Perm (List.range hashes.size):=by
 have start:(live mask (Array.replicate (mask + 1) none)).Perm (List.range 0):=by
  have:live mask (Array.replicate (mask + 1) none) = []:=by
   unfold live
   rw [List.filterMap_eq_nil_iff]
   intro j hj
   have:=List.mem_range.mp hj
   simp [Array.getD]
  rw [this]
  exact List.Perm.refl _
 obtain ⟨o,e1,e2,e3⟩:=zhm hc hashes.toList (Array.replicate (mask + 1) none) 0 (by simp) start (by simpa using h)
 rw [Nat.zero_add] at e1 e3
 have el:layClean mask hashes = some o:=by
  unfold layClean
  rw [← Array.foldl_toList]
  rw [e1]
  rfl
 unfold SetTable.laid
 rw [el]
 refine ⟨_,_,rfl,rfl,rfl,rfl,rfl,rfl,?_,?_⟩
 ·have:((List.range (mask + 1)).filterMap fun j=>(o.getD j none).map fun x=>(j,x)).length = (live mask o).length:=by
   have:live mask o = ((List.range (mask + 1)).filterMap fun j=>(o.getD j none).map fun x=>(j,x)).map (·.2):=by
    unfold live
    rw [List.map_filterMap]
    congr 1
    funext j
    cases o.getD j none <;> rfl
   rw [this,List.length_map]
  simp only [List.size_toArray,List.length_map]
  rw [this,e3.length_eq,List.length_range]
  simp
 ·have:((List.range (mask + 1)).filterMap fun j=>(o.getD j none).map fun x=>(j,x)).map (·.2) = live mask o:=by
   unfold live
   rw [List.map_filterMap]
   congr 1
   funext j
   cases o.getD j none <;> rfl
  show List.Perm (((List.range (mask + 1)).filterMap fun j=>(o.getD j none).map fun x=>(j,x)).map (·.2)).toArray.toList _
  rw [this]
  simpa using e3
theorem zb1 {n:Nat} (h:n < 512) : ∃ m ∈ [8,16,32,64,128,256,512],sizeAbove n = m ∧ n < m:=by
 have all:∀ n < 512,(([8,16,32,64,128,256,512] : List Nat).contains (sizeAbove n) && decide (n < sizeAbove n)) = true:=by decide +kernel
 have:=all n h
 rw [Bool.and_eq_true] at this
 exact ⟨sizeAbove n,List.contains_iff_mem.mp this.1,rfl,of_decide_eq_true this.2⟩
theorem zdT (t:SetTable) (hashes:Array Int) {wanted:Nat} (hw:wanted < 512) (h:hashes.size ≤ wanted) :
  ∃ t' order,t.relaid hashes wanted = some (t',order) ∧ t'.mask = sizeAbove wanted - 1 ∧ t'.dummies = #[] ∧ t'.finger = t.finger ∧ t'.led = t.led ∧ t'.plain = t.plain ∧ t'.place.size = hashes.size ∧ order.toList.Perm (List.range hashes.size):=by
 obtain ⟨m,hm,e,hlt⟩:=zb1 hw
 have hc:=zgf m hm
 have hm1:1 ≤ m:=by lia
 unfold relaid
 rw [e]
 exact zf6 (mask:=m - 1) (by rw [show m - 1 + 1 = m by lia]; exact hc) _ _ _ _ hashes (by lia)
end Wr
namespace Wr
open PySem SetTable
def Rise (l:List Nat) : Prop:=l.Pairwise (· < ·)
def cnt (l:List Nat) (j:Nat) : Nat:=(l.filter fun x=>decide (x < j)).length
theorem zaX:∀ {l:List Nat},Rise l → ∀ (i:Nat) (x:Nat),l[i]? = some x → ∀ j,(x < j ↔ i < cnt l j)
 | [],_,i,x,h,_=>by simp at h
 | y :: l, hl, i, x, h, j => by
  obtain ⟨h1,h2⟩:=List.pairwise_cons.mp hl
  have c:cnt (y :: l) j = if y < j then cnt l j + 1 else cnt l j:=by
   unfold cnt
   rw [List.filter_cons]
   by_cases q:y < j <;> simp [q]
  have zero : ¬ y < j → cnt l j = 0:=fun q=>by
   unfold cnt
   rw [List.length_eq_zero_iff,List.filter_eq_nil_iff]
   intro z hz
   have:=h1 z hz
   simp; lia
  rw [c]
  cases i with
  | zero =>
   have e:y = x:=by simpa using h
   subst e
   by_cases q:y < j
   ·simp [q]
   ·rw [if_neg q,zero q]; simp [q]
  | succ i =>
   have h':l[i]? = some x:=by simpa using h
   have ih:=zaX h2 i x h' j
   have:=h1 x (List.mem_of_getElem? h')
   by_cases q:y < j
   ·rw [if_pos q]; lia
   ·rw [if_neg q,zero q]; lia
theorem zly (l:List Nat) (j:Nat) : cnt l j ≤ l.length:=List.length_filter_le _ _
theorem zfd {xs:Array Nat} {j:Nat} (h:Rise xs.toList) : ∀ (fuel lo hi:Nat),hi - lo ≤ fuel → lo ≤ cnt xs.toList j → cnt xs.toList j ≤ hi → hi ≤ xs.size → below.go xs j fuel lo hi = cnt xs.toList j
 | 0,lo,hi,h1,h2,h3,_=>by unfold below.go; lia
 | fuel + 1, lo, hi, h1, h2, h3, h4 => by
  unfold below.go
  by_cases hl:lo < hi
  ·rw [if_pos hl]
   dsimp only
   have hm:(lo + hi) / 2 < xs.size:=by lia
   have eg:xs.getD ((lo + hi) / 2) j = xs[(lo + hi) / 2]:=by simp [Array.getD,hm]
   have hs:=zaX h ((lo + hi) / 2) (xs[(lo + hi) / 2]) (by simp [hm]) j
   rw [eg]
   by_cases q:xs[(lo + hi) / 2] < j
   ·rw [if_pos q]
    have:=hs.mp q
    exact zfd h fuel _ _ (by lia) (by lia) h3 h4
   ·rw [if_neg q]
    have : ¬ (lo + hi) / 2 < cnt xs.toList j:=fun z=>q (hs.mpr z)
    exact zfd h fuel _ _ (by lia) h2 (by lia) (by lia)
  ·rw [if_neg hl]; lia
theorem zeO {xs:Array Nat} (h:Rise xs.toList) (j:Nat) : below xs j = cnt xs.toList j :=
 zfd h xs.size 0 xs.size (by lia) (Nat.zero_le _) (by have:=zly xs.toList j; simpa using this) (Nat.le_refl _)
theorem ziO:∀ {l:List Nat} {j:Nat},Rise l → (∀ x ∈ l.take (cnt l j),x < j) ∧ (∀ x ∈ l.drop (cnt l j),j ≤ x):=fun {l j} h=>by
 refine ⟨fun x hx=>?_,fun x hx=>?_⟩
 ·obtain ⟨i,hi,rfl⟩:=List.mem_iff_getElem.mp hx
  rw [List.length_take] at hi
  rw [List.getElem_take]
  exact (zaX h i _ (by simp [show i < l.length by lia]) j).mpr (by lia)
 ·obtain ⟨i,hi,rfl⟩:=List.mem_iff_getElem.mp hx
  rw [List.length_drop] at hi
  rw [List.getElem_drop]
  have:=zaX h (cnt l j + i) _ (show l[cnt l j + i]? = some (l[cnt l j + i]'(by lia)) by simp [show cnt l j + i < l.length by lia]) j
  lia
theorem toList_insertAt {α:Type} (xs:Array α) (p:Nat) (x:α) : (insertAt xs p x).toList = xs.toList.take p ++ x :: xs.toList.drop p:=by
 unfold insertAt
 simp
 exact List.take_of_length_le (by simp)
theorem zgl {xs:Array Nat} {j:Nat} (h:Rise xs.toList) (hn:j ∉ xs.toList) : Rise (insertAt xs (below xs j) j).toList:=by
 rw [toList_insertAt,zeO h]
 obtain ⟨h1,h2⟩:=ziO (j:=j) h
 have h2':∀ x ∈ xs.toList.drop (cnt xs.toList j),j < x:=fun x hx=>by
  have:=h2 x hx
  have:x ≠ j:=fun e=>hn (e ▸ List.mem_of_mem_drop hx)
  lia
 refine List.pairwise_append.mpr ⟨h.sublist (List.take_sublist _ _),List.pairwise_cons.mpr ⟨h2',h.sublist (List.drop_sublist _ _)⟩,fun a ha b hb=>?_⟩
 rcases List.mem_cons.mp hb with z | z
 ·rw [z]; exact h1 a ha
 ·have:=h1 a ha; have:=h2' b z; lia
theorem zhY {t:SetTable} {j:Nat} (h:Rise t.place.toList) (hs:t.slot j = .empty ∨ t.slot j = .dummy) : j ∉ t.place.toList:=fun hm=>by
 have e:t.place[below t.place j]? = some j:=by
  obtain ⟨i,hi,rfl⟩:=List.mem_iff_getElem.mp hm
  rw [Array.length_toList] at hi
  rw [zeO h]
  have hc:cnt t.place.toList (t.place.toList[i]'(by simpa using hi)) = i:=by
   have h1:=zaX h i _ (show t.place.toList[i]? = some (t.place.toList[i]'(by simpa using hi)) by simp [hi]) (t.place.toList[i]'(by simpa using hi))
   have h2 : ¬ i < cnt t.place.toList (t.place.toList[i]'(by simpa using hi)):=fun z=>Nat.lt_irrefl _ (h1.mpr z)
   have h3:∀ k,k < i → k < cnt t.place.toList (t.place.toList[i]'(by simpa using hi)):=fun k hk=>by
    have hkl:k < t.place.toList.length:=by rw [Array.length_toList]; lia
    have q:=zaX h k _ (show t.place.toList[k]? = some (t.place.toList[k]'hkl) by simp [hkl]) (t.place.toList[i]'(by simpa using hi))
    exact q.mp (List.pairwise_iff_getElem.mp h k i hkl (by simpa using hi) hk)
   cases i with
   | zero=>lia
   | succ i=>have:=h3 i (by lia); lia
  rw [hc]
  simp [hi]
 unfold slot at hs
 dsimp only at hs
 rw [e] at hs
 simp at hs
theorem zf8 {mask finger moves:Nat} {led plain:Bool} {hashes:Array Int} {t:SetTable} {order:Array Nat} (e:SetTable.laid mask finger moves led plain hashes = some (t,order)) : Rise t.place.toList ∧ t.led = led:=by
 unfold SetTable.laid at e
 cases h:layClean mask hashes with
 | none=>rw [h] at e; cases e
 | some o =>
  rw [h] at e
  cases e
  refine ⟨?_,rfl⟩
  show Rise (((List.range (mask + 1)).filterMap fun j=>(o.getD j none).map fun x=>(j,x)).map (·.1)).toArray.toList
  have:((List.range (mask + 1)).filterMap fun j=>(o.getD j none).map fun x=>(j,x)).map (·.1) = (List.range (mask + 1)).filter fun j=>(o.getD j none).isSome:=by
   generalize List.range (mask + 1) = l
   induction l with
   | nil=>rfl
   | cons y l ih =>
    rw [List.filter_cons]
    cases q:o.getD y none with
    | none =>
     rw [List.filterMap_cons_none (by rw [q]; rfl),ih]
     simp
    | some z =>
     rw [List.filterMap_cons_some (by rw [q]; rfl),List.map_cons,ih]
     simp
  rw [this]
  rw [List.toList_toArray]
  exact (List.pairwise_lt_range (n:=mask + 1)).sublist List.filter_sublist
theorem zgw {t t':SetTable} {hashes:Array Int} {wanted:Nat} {order:Array Nat} (e:t.relaid hashes wanted = some (t',order)) : Rise t'.place.toList ∧ t'.led = t.led:=zf8 e
end Wr
namespace Wr
open PySem SetTable
def zl9:List Nat:=[8,16,32,64,128,256,512]
structure TOk (t:SetTable) (n:Nat) : Prop where
 sz:t.place.size = n
 rise:Rise t.place.toList
 inn:∀ x ∈ t.place.toList,x ≤ t.mask
 nod:t.dummies = #[]
 plain:t.plain = true
 msk:t.mask + 1 ∈ zl9
 room:n * 5 < t.mask * 3
theorem TOk.fits {t:SetTable} {n:Nat} (h:TOk t n) : t.fits n = true:=by
 have h1:=h.sz
 have h2:=h.room
 unfold SetTable.fits SetTable.fill
 rw [h.nod,h1]
 simp
 lia
theorem slot_of {t:SetTable} {n:Nat} (h:TOk t n) (j:Nat) (hj:j ∉ t.place.toList) : t.slot j = .empty:=by
 unfold slot
 dsimp only
 have e1:(t.place[below t.place j]? == some j) = false:=by
  apply Bool.eq_false_iff.mpr
  intro z
  have:=eq_of_beq z
  exact hj (Array.mem_toList_iff.mpr (Array.mem_of_getElem? this))
 rw [e1,h.nod]
 simp [has]
theorem zjY {t:SetTable} (hd:t.dummies = #[]) (j:Nat) : t.slot j ≠ .dummy:=by
 unfold slot
 dsimp only
 rw [hd]
 split
 ·intro z; cases z
 ·simp [has]
theorem zdd {t:SetTable} {p:Probe} (h:p.more > 0) : t.advance p = { p with j:=p.j + 1,more:=p.more - 1 }:=by unfold advance; rw [if_pos h]
theorem zdg {t:SetTable} {p:Probe} (h : ¬ p.more > 0) : t.advance p = { p with j:=(leap t.mask p.i p.perturb).1,more:=runEnd t.mask (leap t.mask p.i p.perturb).1 - (leap t.mask p.i p.perturb).1,i:=(leap t.mask p.i p.perturb).1,perturb:=(leap t.mask p.i p.perturb).2 }:=by unfold advance; rw [if_neg h]
theorem zk5 {t:SetTable} (hd:t.dummies = #[]) (h:Int) (R:Option Met → Prop) (hR:∀ j,t.slot j = .empty → R (some (.empty j none))) : ∀ (more j i p fuel:Nat),
  (∀ f,f + (more + 1) = fuel → R (probe.go t (fun _=>h + 1) h f { j:=(leap t.mask i p).1,more:=runEnd t.mask (leap t.mask i p).1 - (leap t.mask i p).1,i:=(leap t.mask i p).1,perturb:=(leap t.mask i p).2,dummy:=none })) →
  more + 1 ≤ fuel → R (probe.go t (fun _=>h + 1) h fuel { j,more,i,perturb:=p,dummy:=none })
 | more,j,i,p,0,_,hf=>absurd hf (by lia)
 | more, j, i, p, fuel + 1, k, hf => by
  unfold probe.go
  dsimp only
  cases hs:t.slot j with
  | empty=>exact hR j hs
  | dummy=>exact absurd hs (zjY hd j)
  | live x =>
   dsimp only
   have ne:(h + 1 == h) = false:=by
    apply Bool.eq_false_iff.mpr
    intro z
    have:=eq_of_beq z
    lia
   rw [ne]
   simp only [Bool.false_eq_true,if_false]
   cases more with
   | zero =>
    rw [zdg (by simp)]
    exact k fuel (by lia)
   | succ more =>
    rw [zdd (by simp)]
    exact zk5 hd h R hR more (j + 1) i p fuel (fun f hf'=>k f (by lia)) (by lia)
theorem zjN {t:SetTable} (hd:t.dummies = #[]) (h:Int) : ∀ (n i p fuel:Nat),t.slot (lseq t.mask n i p).1 = .empty → 10 * n + 1 ≤ fuel →
  ∃ j,probe.go t (fun _=>h + 1) h fuel { j:=i,more:=runEnd t.mask i - i,i,perturb:=p,dummy:=none } = some (.empty j none) ∧ t.slot j = .empty
 | 0, i, p, fuel, e, hf => by
  cases fuel with
  | zero=>lia
  | succ fuel =>
   refine ⟨i,?_,e⟩
   unfold probe.go
   have e':t.slot i = .empty:=e
   dsimp only
   rw [e']
 | n + 1,i,p,fuel,e,hf=>by
  have hrun:runEnd t.mask i - i ≤ 9:=by unfold runEnd; split <;> lia
  refine zk5 hd h (fun o=>∃ j,o = some (.empty j none) ∧ t.slot j = .empty) (fun j hj=>⟨j,rfl,hj⟩) _ i i p fuel (fun f hf'=>?_) (by lia)
  exact zjN hd h n _ _ f e (by lia)
theorem zg4:∀ {l r:List Nat},l.Nodup → (∀ y ∈ l,y ∈ r) → l.length ≤ r.length
 | [],_,_,_=>Nat.zero_le _
 | x :: l,r,nd,h=>by
  obtain ⟨n1,n2⟩:=List.nodup_cons.mp nd
  have hx:=h x List.mem_cons_self
  have:=zg4 (r:=r.erase x) n2 fun y hy=>(List.mem_erase_of_ne (fun e:y = x=>n1 (e ▸ hy))).mpr (h y (List.mem_cons_of_mem _ hy))
  rw [List.length_erase_of_mem hx] at this
  have:0 < r.length:=List.length_pos_of_mem hx
  rw [List.length_cons]
  lia
theorem zeS {t:SetTable} {n:Nat} (h:TOk t n) (x:Int) : ∃ j,t.freeSlot x = some (j,false) ∧ j ∉ t.place.toList ∧ j ≤ t.mask:=by
 have room:=h.room
 obtain ⟨e,he,hn⟩ : ∃ e,e < t.mask + 1 ∧ e ∉ t.place.toList:=by
  apply Classical.byContradiction
  intro hc
  have sub:∀ y ∈ List.range (t.mask + 1),y ∈ t.place.toList:=fun y hy=>Classical.byContradiction fun z=>hc ⟨y,List.mem_range.mp hy,z⟩
  have:=zg4 List.nodup_range sub
  rw [List.length_range,Array.length_toList,h.sz] at this
  lia
 have hc:=zgf (t.mask + 1) h.msk
 obtain ⟨s,hs,es⟩:=reach hc (bits x % (t.mask + 1)) (Nat.mod_lt _ (Nat.succ_pos _)) (bits x) (zim x) e he
 obtain ⟨j,ej,hj⟩:=zjN h.nod x s (bits x % (t.mask + 1)) (bits x) (10 * turns t.mask) (by rw [es]; exact slot_of h e hn) (by unfold turns; omega)
 refine ⟨j,?_,zhY h.rise (.inl hj),?_⟩
 ·unfold freeSlot probe probeStart
  dsimp only
  rw [ej]
  rfl
 ·refine probe_in t x (10 * turns t.mask) _ j none ?_ ej
  exact ⟨Nat.le_of_lt_succ (Nat.mod_lt _ (Nat.succ_pos _)),Nat.le_of_lt_succ (Nat.mod_lt _ (Nat.succ_pos _)),by
   dsimp only
   have:=Nat.mod_lt (bits x) (show 0 < t.mask + 1 by lia)
   unfold runEnd
   split <;> lia⟩
where
 probe_in (t:SetTable) (h:Int) : ∀ (fuel:Nat) (p:Probe) (j:Nat) (d:Option Nat),(p.j ≤ t.mask ∧ p.i ≤ t.mask ∧ p.j + p.more ≤ t.mask) → probe.go t (fun _=>h + 1) h fuel p = some (.empty j d) → j ≤ t.mask
  | 0,p,j,_,_,e=>by unfold probe.go at e; cases e
  | fuel + 1, p, j, d, hp, e => by
   have adv:∀ q:Probe,(q.j ≤ t.mask ∧ q.i ≤ t.mask ∧ q.j + q.more ≤ t.mask) → ((t.advance q).j ≤ t.mask ∧ (t.advance q).i ≤ t.mask ∧ (t.advance q).j + (t.advance q).more ≤ t.mask):=fun q hq=>by
    by_cases hm:q.more > 0
    ·rw [zdd hm]; dsimp only; lia
    ·rw [zdg hm]
     dsimp only
     have hl:(leap t.mask q.i q.perturb).1 ≤ t.mask:=Nat.le_of_lt_succ (Nat.mod_lt _ (Nat.succ_pos _))
     refine ⟨hl,hl,?_⟩
     unfold runEnd
     split <;> lia
   unfold probe.go at e
   cases hs:t.slot p.j with
   | empty=>rw [hs] at e; cases e; exact hp.1
   | dummy=>rw [hs] at e; exact probe_in t h fuel _ j d (adv { p with dummy:=some p.j } hp) e
   | live x =>
    rw [hs] at e
    dsimp only at e
    split at e
    ·cases e
    ·exact probe_in t h fuel _ j d (adv _ hp) e
theorem ziB {t:SetTable} {es:Array (Int × Value)} (h:TOk t es.size) (hr:(es.size + 1) ≤ t.mask) (k:Int) (x:Value) :
  ∃ t' p,layNew t es k x = (insertAt es p (k,x),t',false,false) ∧ t'.mask = t.mask ∧ t'.led = t.led ∧ t'.plain = true ∧ t'.dummies = #[] ∧ t'.place.size = es.size + 1 ∧ Rise t'.place.toList ∧ ∀ y ∈ t'.place.toList,y ≤ t.mask:=by
 obtain ⟨j,ej,hn,hj⟩:=zeS h k
 have hput:t.put j = ({ t with place:=insertAt t.place (below t.place j) j },below t.place j):=by
  unfold SetTable.put
  dsimp only
  have:has t.dummies j = false:=by rw [h.nod]; simp [has]
  rw [this,h.nod]
  simp
 have szI:(insertAt es (below t.place j) (k,x)).size = es.size + 1:=by
  have:=(PySem.SetTable.insertAt_perm es (below t.place j) (k,x)).length_eq
  simpa using this
 have szP:(insertAt t.place (below t.place j) j).size = es.size + 1:=by
  have:=(PySem.SetTable.insertAt_perm t.place (below t.place j) j).length_eq
  rw [Array.length_toList,Array.length_toList,Array.size_push,h.sz] at this
  exact this
 have hfit:({ t with place:=insertAt t.place (below t.place j) j } : SetTable).fits (es.size + 1) = true:=by
  unfold SetTable.fits SetTable.fill
  dsimp only
  rw [szP,h.nod]
  simp
  exact hr
 refine ⟨{ t with place:=insertAt t.place (below t.place j) j },below t.place j,?_,rfl,rfl,h.plain,h.nod,szP,zgl h.rise hn,fun y hy=>?_⟩
 ·unfold layNew
  rw [ej]
  dsimp only
  rw [hput]
  dsimp only
  rw [szI,hfit]
  unfold orStandIn
  rw [hfit]
  rfl
 ·rw [toList_insertAt] at hy
  rcases List.mem_append.mp hy with z | z
  ·exact h.inn y (List.mem_of_mem_take z)
  ·rcases List.mem_cons.mp z with z | z
   ·rw [z]; exact hj
   ·exact h.inn y (List.mem_of_mem_drop z)
theorem zfu (t:SetTable) (hp:t.plain = true) (hashes:Array Int) {wanted:Nat} (hw:wanted < 512) (hb:hashes.size * 2 ≤ wanted) :
  ∃ t' order,t.relaid hashes wanted = some (t',order) ∧ TOk t' hashes.size ∧ t'.led = t.led ∧ order.toList.Perm (List.range hashes.size):=by
 obtain ⟨t',order,e,h1,h2,h3,h4,h5,h6,h7⟩:=zdT t hashes hw (by omega)
 obtain ⟨m,hm,em,hlt⟩:=zb1 hw
 have hm8:8 ≤ m:=by
  have:∀ m ∈ [8,16,32,64,128,256,512],8 ≤ m:=by decide
  exact this m hm
 rw [em] at h1
 refine ⟨t',order,e,⟨h6,(zgw e).1,fun x hx=>?_,h2,h5.trans hp,?_,?_⟩,h4,h7⟩
 ·rw [h1]
  unfold relaid SetTable.laid at e
  rw [em] at e
  cases q:layClean (m - 1) hashes with
  | none=>rw [q] at e; cases e
  | some o =>
   rw [q] at e
   cases e
   have hx':x ∈ ((List.range (m - 1 + 1)).filterMap fun j=>(o.getD j none).map fun x=>(j,x)).map (·.1):=by simpa using hx
   obtain ⟨y,hy,rfl⟩:=List.mem_map.mp hx'
   obtain ⟨j,hj,hjy⟩:=List.mem_filterMap.mp hy
   have:=List.mem_range.mp hj
   cases q2:o.getD j none with
   | none=>rw [q2] at hjy; cases hjy
   | some z=>rw [q2] at hjy; cases hjy; show j ≤ m - 1; lia
 ·rw [h1,show m - 1 + 1 = m by lia]; exact hm
 ·rw [h1]; lia
theorem zcu {α:Type} (es:Array α) (order:Array Nat) (h:order.toList.Perm (List.range es.size)) : (order.filterMap (es[·]?)).toList.Perm es.toList:=by
 rw [Array.toList_filterMap]
 have:=h.filterMap (fun i=>es[i]?)
 exact this.trans (by rw [filterMap_getElem?_range])
theorem zgD {t:SetTable} (hp:t.plain = true) (es:Array (Int × Value)) (h:es.size < 128) : ∃ es' t',relayAll t es (grown es.size) = (es',t',false) ∧ TOk t' es.size ∧ t'.led = t.led ∧ es'.toList.Perm es.toList:=by
 have hg:grown es.size = es.size * 4:=by unfold grown; rw [if_neg (by lia)]
 obtain ⟨t',order,e,ok,hl,hperm⟩:=zfu t hp (es.map (·.1)) (wanted:=grown es.size) (by rw [hg]; omega) (by rw [hg,Array.size_map]; omega)
 rw [Array.size_map] at ok hperm
 have pk:=zcu es order hperm
 have sz:(order.filterMap (es[·]?)).size = es.size:=by
  have:=pk.length_eq
  rw [Array.length_toList,Array.length_toList] at this
  exact this
 have cov:coversAll order es.size = true:=by unfold coversAll; exact List.isPerm_iff.mpr hperm
 refine ⟨order.filterMap (es[·]?),t',?_,ok,hl,pk⟩
 unfold relayAll
 rw [e]
 dsimp only
 rw [cov,sz,ok.fits]
 rfl
end Wr
namespace Wr
open PySem SetTable
theorem zhw {α β:Type} {R:α → β → Prop} {xs ys:List α} (p:ys.Perm xs) : ∀ {ss:List β},Paired R xs ss → ∃ ts,ts.Perm ss ∧ Paired R ys ts:=by
 induction p with
 | nil=>intro ss h; exact ⟨ss,.refl _,h⟩
 | cons x _ ih =>
  intro ss h
  cases h with
  | cons r t=>obtain ⟨ts,p,q⟩:=ih t; exact ⟨_ :: ts,p.cons _,.cons r q⟩
 | swap x y l =>
  intro ss h
  cases h with
  | cons r t=>cases t with | cons r' t'=>exact ⟨_ :: _ :: _,.swap _ _ _,.cons r' (.cons r t')⟩
 | trans _ _ ih1 ih2 =>
  intro ss h
  obtain ⟨ts,p,q⟩:=ih2 h
  obtain ⟨us,p',q'⟩:=ih1 q
  exact ⟨us,p'.trans p,q'⟩
def zhO (e:Int × Value) (n:Int) : Prop:=e.1 = hashInt n ∧ ∃ t,e.2 = .int n t
abbrev byTx (w:World) : Bool:=w.params.followText "set-order"
structure ISet (w:World) (h:Heap) (a:Addr) (ns:List Int) : Prop where
 ex:∃ o es ep t,h.get? a = some o ∧ o.ExactSet ∧ o.data = .set es ep t ∧ Paired zhO es.toList ns ∧ ns.Nodup ∧ TOk t es.size ∧ (byTx w = false → t.led = true)
theorem ze7 {α β:Type} {R:α → β → Prop} : ∀ {xs:List α} {ys:List β},Paired R xs ys → xs.length = ys.length
 | _,_,.nil=>rfl
 | _,_,.cons _ t=>by rw [List.length_cons,List.length_cons,ze7 t]
theorem zgz {α β:Type} {R:α → β → Prop} : ∀ {xs:List α} {ys:List β} {x:α},Paired R xs ys → x ∈ xs → ∃ y ∈ ys,R x y
 | _,_,_,.nil,h=>by cases h
 | _,_,x,.cons r t,h=>by
  rcases List.mem_cons.mp h with z | z
  ·subst z; exact ⟨_,List.mem_cons_self,r⟩
  ·obtain ⟨y,h1,h2⟩:=zgz t z; exact ⟨y,List.mem_cons_of_mem _ h1,h2⟩
theorem zgP {α β:Type} {R:α → β → Prop} : ∀ {xs:List α} {ys:List β} {y:β},Paired R xs ys → y ∈ ys → ∃ x ∈ xs,R x y
 | _,_,_,.nil,h=>by cases h
 | _,_,y,.cons r t,h=>by
  rcases List.mem_cons.mp h with z | z
  ·subst z; exact ⟨_,List.mem_cons_self,r⟩
  ·obtain ⟨x,h1,h2⟩:=zgP t z; exact ⟨x,List.mem_cons_of_mem _ h1,h2⟩
theorem znj {prog:Program} {w:World} {es:List (Int × Value)} {ns:List Int} (p:Paired zhO es ns) : ElemsOf (intKind prog w) es:=fun e he=>by
 obtain ⟨n,_,h1,t,h2⟩:=zgz p he
 refine ⟨⟨n,?_,h1⟩,by rw [h2]; rfl⟩
 rw [h2]
 show Value.isInt n (.int n t) = true
 simp [Value.isInt]
theorem ISet.keeps {w:World} {h h':Heap} {a:Addr} {ns:List Int} (x:ISet w h a ns) (k:∀ o,h.get? a = some o → h'.get? a = some o) : ISet w h' a ns:=by
 obtain ⟨o,es,ep,t,e,r⟩:=x.ex
 exact ⟨o,es,ep,t,k o e,r⟩
section
variable {prog:Program} {w:World} {A:Around} {E:Value → Shared → Prop} {s:Shared}
theorem zbO {h:Heap} {a:Addr} {o:Obj} {es es':Array (Int × Value)} {ep:Nat} {t t':SetTable} {ns':List Int} (ho:h.get? a = some o) (hx:o.ExactSet) (hd:o.data = .set es ep t) (p:Paired zhO es'.toList ns') (nd:ns'.Nodup) (ok:TOk t' es'.size) (led:byTx w = false → t'.led = true) :
  (h.update a (Obj.putSet es' t')).get? a = some { o with data:=.set es' (ep + 1) t' } ∧ ISet w (h.update a (Obj.putSet es' t')) a ns':=by
 have hg:(h.update a (Obj.putSet es' t')).get? a = some { o with data:=.set es' (ep + 1) t' }:=by
  have e:=Heap.get?_update_self (Obj.putSet es' t') ho (by rw [putSet_of es' t' hd]; rfl)
  rwa [putSet_of es' t' hd] at e
 exact ⟨hg,⟨_,es',ep + 1,t',hg,hx,rfl,p,nd,ok,led⟩⟩
theorem zhc {a:Addr} {ns:List Int} {k:Int} {tk:Tok} {Q:Bool → Shared → Prop} (hS:ISet w s.heap a ns) (hb:ns.length + 1 < 128)
  (h:∀ h' ns' b,Heap.SameBut a s.heap h' → ISet w h' a ns' → (k ∈ ns ∧ ns' = ns) ∨ (k ∉ ns ∧ ns'.Perm (k :: ns)) → Q b { s with heap:=h' }) :
  wpAny (model prog w) A (setAddHashed a (.int k tk) (hashInt k)) Q E s:=by
 obtain ⟨o,es,ep,t,ho,hx,hd,p,nd,ok,led⟩:=hS.ex
 have hlen:es.size = ns.length:=by rw [← Array.length_toList]; exact ze7 p
 have hel:ElemsOf (intKind prog w) es.toList:=znj p
 have hsc:(Value.int k tk).scannable = true:=rfl
 have hkey:(intKind prog w).is k (.int k tk) = true:=by show Value.isInt k (.int k tk) = true; simp [Value.isInt]
 have hb2:es.size < scanBound:=by rw [hlen]; show ns.length < 4096; lia
 unfold setAddHashed setAddHashedIn
 refine wpAny_holding (wpAny_bind (wpAny_setState_of ho hd ok.fits ?_)); dsimp only
 rw [byScan_of hsc hb2 hel,if_pos rfl]
 unfold setAddByScan
 refine wpAny_bind (wpAny_bind (wpAny_rule (wpAny_bind (wpAny_setScan_of (knd:=intKind prog w) hkey ho hd ok.fits hel ?_))))
 cases hr:List.findIdx? (fun e=>(intKind prog w).is k e.2) es.toList with
 | some j =>
  obtain ⟨hj,hpj,_⟩:=List.findIdx?_eq_some_iff_getElem.mp hr
  have hm:k ∈ ns:=by
   obtain ⟨n,hn,_,t',h2⟩:=zgz p (List.getElem_mem hj)
   rw [h2] at hpj
   have:k = n:=by
    have z:Value.isInt k (.int n t') = true:=hpj
    obtain ⟨t2,e2⟩:=Value.isInt_shape z
    injection e2 with e3
    exact e3.symm
   rw [this]; exact hn
  dsimp only
  refine wpAny_pure (wpAny_pure ?_)
  have:=h s.heap ns false (Heap.SameBut.refl a s.heap) hS (.inl ⟨hm,rfl⟩)
  cases s
  exact this
 | none =>
  have hm:k ∉ ns:=fun hn=>by
   obtain ⟨e,he,_,t',h2⟩:=zgP p hn
   have z:=List.findIdx?_eq_none_iff.mp hr e he
   rw [h2] at z
   have z':Value.isInt k (.int k t') = false:=z
   simp [Value.isInt] at z'
  dsimp only
  have room:=ok.room
  have hm7:7 ≤ t.mask:=by
   have all:∀ m ∈ zl9,8 ≤ m:=by decide
   have:=all _ ok.msk
   lia
  obtain ⟨t1,pl,el,q1,q2,q3,q4,q5,q6,q7⟩:=ziB ok (by omega) (hashInt k) (.int k tk)
  have el':layNew t es ((intKind prog w).hash k) (.int k tk) = (insertAt es pl (hashInt k,.int k tk),t1,false,false):=el
  have perm1:=PySem.SetTable.insertAt_perm es pl (hashInt k,Value.int k tk)
  rw [Array.toList_push] at perm1
  obtain ⟨ns1,pn1,pp1⟩:=zhw perm1 (ss:=ns ++ [k]) (Paired.snoc p ⟨rfl,tk,rfl⟩)
  have sz1:(insertAt es pl (hashInt k,Value.int k tk)).size = es.size + 1:=by
   have z:=perm1.length_eq
   simpa using z
  have pn:ns1.Perm (k :: ns):=pn1.trans (List.perm_append_comm (l₁:=ns) (l₂:=[k]))
  have nd1:ns1.Nodup:=pn.nodup_iff.mpr (List.nodup_cons.mpr ⟨hm,nd⟩)
  rw [show hashInt k = (intKind prog w).hash k from rfl,el']
  dsimp only
  refine wpAny_bind (wpAny_pure ?_)
  rw [q3,if_pos rfl]
  refine wpAny_bind ?_
  rw [hashByValue_scannable 8 hsc]
  refine wpAny_pure ?_
  have pk:(if plainKind (Value.int k tk) = true then t1 else ({ t1 with plain:=false } : SetTable)) = t1:=rfl
  rw [pk]
  have hz1:(insertAt es pl (hashInt k,Value.int k tk)).size ≤ sizeLine:=by rw [sz1]; exact fits_of_scanBound (by show _ < 4096; lia)
  refine wpAny_bind (wpAny_storeSet_of ho hd ?_ hz1)
  have sb1:=Heap.SameBut.update s.heap a (Obj.putSet (insertAt es pl (hashInt k,Value.int k tk)) t1)
  have hg:(s.heap.update a (Obj.putSet (insertAt es pl (hashInt k,Value.int k tk)) t1)).get? a = some { o with data:=.set (insertAt es pl (hashInt k,Value.int k tk)) (ep + 1) t1 }:=by
   have e:=Heap.get?_update_self (Obj.putSet (insertAt es pl (hashInt k,Value.int k tk)) t1) ho (by rw [putSet_of _ t1 hd]; rfl)
   rwa [putSet_of _ t1 hd] at e
  by_cases full:t1.tooFull = true
  ·have cond:(!false && t1.tooFull) = true:=by rw [full]; rfl
   rw [if_pos cond]
   obtain ⟨es2,t2,er,ok2,l2,perm2⟩:=zgD q3 (insertAt es pl (hashInt k,Value.int k tk)) (by rw [sz1]; omega)
   rw [er]
   dsimp only
   obtain ⟨ns2,pn2,pp2⟩:=zhw perm2 pp1
   have sz2:es2.size = es.size + 1:=by
    have z:=perm2.length_eq
    rw [Array.length_toList,Array.length_toList,sz1] at z
    exact z
   refine wpAny_bind (wpAny_pure ?_)
   have hz2:es2.size ≤ sizeLine:=by rw [sz2]; exact fits_of_scanBound (by show _ < 4096; lia)
   refine wpAny_bind (wpAny_storeSet_of hg rfl (wpAny_pure (wpAny_pure ?_)) hz2)
   obtain ⟨_,hS2⟩:=zbO (w:=w) (es':=es2) (t':=t2) (ns':=ns2) hg hx rfl pp2 ((pn2.trans pn).nodup_iff.mpr (List.nodup_cons.mpr ⟨hm,nd⟩)) (by rw [sz1] at ok2; rw [sz2]; exact ok2) (fun z=>by rw [l2,q2]; exact led z)
   exact h _ ns2 _ (sb1.trans (Heap.SameBut.update _ a _)) hS2 (.inr ⟨hm,pn2.trans pn⟩)
  ·have cond : ¬ ((!false && t1.tooFull) = true):=by simpa using full
   rw [if_neg cond]
   have ok1:TOk t1 (es.size + 1):=by
    refine ⟨q5,q6,fun y hy=>by rw [q1]; exact q7 y hy,q4,q3,by rw [q1]; exact ok.msk,?_⟩
    have z : ¬ (t1.fill * 5 ≥ t1.mask * 3):=fun z=>full (by unfold SetTable.tooFull; exact decide_eq_true z)
    unfold SetTable.fill at z
    rw [q5,q4] at z
    have e0:(#[] : Array Nat).size = 0:=rfl
    rw [e0] at z
    lia
   obtain ⟨_,hS1⟩:=zbO (w:=w) (es':=insertAt es pl (hashInt k,Value.int k tk)) (t':=t1) (ns':=ns1) ho hx hd pp1 nd1 (by rw [sz1]; exact ok1) (fun z=>by rw [q2]; exact led z)
   exact wpAny_pure (wpAny_pure (h _ ns1 _ sb1 hS1 (.inr ⟨hm,pn⟩)))
end
end Wr
namespace Wr
open PySem SetTable
theorem zaI {M:Model} {A:Around} {α:Type} {c:Prop} [Decidable c] {a b:Sem α} {Q:α → Shared → Prop} {E:Value → Shared → Prop} {s:Shared} (hc : ¬ c) (h:wpAny M A b Q E s) : wpAny M A (if c then a else b) Q E s:=by rw [if_neg hc]; exact h
theorem zcT {M:Model} {A:Around} {α:Type} {c:Prop} [Decidable c] {a b:Sem α} {Q:α → Shared → Prop} {E:Value → Shared → Prop} {s:Shared} (hc:c) (h:wpAny M A a Q E s) : wpAny M A (if c then a else b) Q E s:=by rw [if_pos hc]; exact h
theorem zes {α:Type} : ∀ {l:List α} {i:Nat} (h:i < l.length),(l[i] :: l.eraseIdx i).Perm l
 | [],_,h=>absurd h (Nat.not_lt_zero _)
 | x :: l,0,_=>.refl _
 | x :: l,i + 1,h=>(List.Perm.swap _ _ _).trans ((zes (l:=l) (i:=i) (by simpa using h)).cons x)
theorem ziZ {α:Type} (next:Nat → Nat) : ∀ (fuel k:Nat) (left:List α) (out:Array α),left.length = fuel → (pickOrder.go next fuel k left out).toList.Perm (out.toList ++ left)
 | 0,_,left,out,h=>by
  have:left = []:=List.length_eq_zero_iff.mp h
  subst this
  unfold pickOrder.go
  rw [List.append_nil]
 | fuel + 1,k,left,out,h=>by
  unfold pickOrder.go
  have hl:next k % left.length < left.length:=Nat.mod_lt _ (by lia)
  rw [List.getElem?_eq_getElem hl]
  dsimp only
  refine (ziZ next fuel (k + 1) _ _ (by rw [List.length_eraseIdx_of_lt hl]; lia)).trans ?_
  rw [Array.toList_push,List.append_assoc]
  refine List.Perm.append_left _ ?_
  show (left[next k % left.length] :: left.eraseIdx (next k % left.length)).Perm left
  exact zes hl
theorem zfG {α:Type} (next:Nat → Nat) (xs:Array α) : (pickOrder next xs).toList.Perm xs.toList:=by
 unfold pickOrder
 have:=ziZ next xs.size 0 xs.toList #[] (by simp)
 simpa using this
section
variable {prog:Program} {w:World} {A:Around} {E:Value → Shared → Prop} {s:Shared}
structure RSet (w:World) (h:Heap) (a:Addr) (ns:List Int) (o:Obj) (es:Array (Int × Value)) (ep:Nat) (t:SetTable) : Prop where
 at':h.get? a = some o
 ex:o.ExactSet
 dat:o.data = .set es ep t
 prs:Paired zhO es.toList ns
 nd:ns.Nodup
 ok:TOk t es.size
 led:byTx w = false → t.led = true
theorem ISet.raw {h:Heap} {a:Addr} {ns:List Int} (x:ISet w h a ns) : ∃ o es ep t,RSet w h a ns o es ep t :=
 let ⟨o,es,ep,t,h1,h2,h3,h4,h5,h6,h7⟩:=x.ex; ⟨o,es,ep,t,h1,h2,h3,h4,h5,h6,h7⟩
theorem RSet.iset {h:Heap} {a:Addr} {ns:List Int} {o:Obj} {es:Array (Int × Value)} {ep:Nat} {t:SetTable} (x:RSet w h a ns o es ep t) : ISet w h a ns:=⟨o,es,ep,t,x.at',x.ex,x.dat,x.prs,x.nd,x.ok,x.led⟩
theorem RSet.len {h:Heap} {a:Addr} {ns:List Int} {o:Obj} {es:Array (Int × Value)} {ep:Nat} {t:SetTable} (x:RSet w h a ns o es ep t) : es.size = ns.length:=by rw [← Array.length_toList]; exact ze7 x.prs
theorem RSet.state {a:Addr} {ns:List Int} {o:Obj} {es:Array (Int × Value)} {ep:Nat} {t:SetTable} {Q:(Array (Int × Value) × Nat × SetTable) → Shared → Prop} (x:RSet w s.heap a ns o es ep t) (h:Q (es,ep,t) s) :
  wpAny (model prog w) A (setState a) Q E s:=wpAny_setState_of x.at' x.dat x.ok.fits h
theorem zfH {a:Addr} {ns:List Int} {more:Nat} {Q:Unit → Shared → Prop} (hS:ISet w s.heap a ns) (hb:ns.length + more < 128)
  (h:∀ h' ns' o es ep t,Heap.SameBut a s.heap h' → RSet w h' a ns' o es ep t → ns'.Perm ns → (ns.length + more) * 5 < t.mask * 3 → Q () { s with heap:=h' }) :
  wpAny (model prog w) A (setRoomFor a more) Q E s:=by
 obtain ⟨o,es,ep,t,R⟩:=hS.raw
 have hlen:=R.len
 unfold setRoomFor
 refine wpAny_bind (R.state ?_)
 dsimp only
 have hfill:t.fill = es.size:=by unfold SetTable.fill; rw [R.ok.nod,R.ok.sz]; rfl
 by_cases hc:(t.fill + more) * 5 ≥ t.mask * 3
 ·have hr:t.roomFor more = some ((t.place.size + more) * 2):=by unfold SetTable.roomFor; rw [if_pos hc]
  rw [hr]
  dsimp only
  unfold setRelay
  refine wpAny_bind (R.state ?_)
  dsimp only
  have hw:(t.place.size + more) * 2 < 512:=by rw [R.ok.sz]; lia
  obtain ⟨m,hm,em,hlt⟩:=zb1 hw
  have hm512:m ≤ 512 ∧ 8 ≤ m:=by
   have all:∀ m ∈ [8,16,32,64,128,256,512],m ≤ 512 ∧ 8 ≤ m:=by decide
   exact all m hm
  refine zaI (by rw [em,sizeLine_eq]; lia) ?_
  obtain ⟨t',order,e,ok,hl,hp⟩:=zfu t R.ok.plain (es.map (·.1)) hw (by rw [Array.size_map,R.ok.sz]; omega)
  rw [Array.size_map] at ok hp
  have pk:=zcu es order hp
  have sz:(order.filterMap (es[·]?)).size = es.size:=by
   have z:=pk.length_eq
   rw [Array.length_toList,Array.length_toList] at z
   exact z
  rw [e]
  refine wpAny_bind (zaI (c:=((order.filterMap (es[·]?)).size != es.size) = true) (by rw [sz]; simp) (wpAny_pure ?_))
  dsimp only
  have hz:(order.filterMap (es[·]?)).size ≤ sizeLine:=by rw [sz,hlen]; exact fits_of_scanBound (by show _ < 4096; lia)
  refine wpAny_storeSet_of R.at' R.dat ?_ hz
  obtain ⟨ns',pn,pp⟩:=zhw pk R.prs
  have hg:(s.heap.update a (Obj.putSet (order.filterMap (es[·]?)) t')).get? a = some { o with data:=.set (order.filterMap (es[·]?)) (ep + 1) t' }:=by
   have z:=Heap.get?_update_self (Obj.putSet (order.filterMap (es[·]?)) t') R.at' (by rw [putSet_of _ t' R.dat]; rfl)
   rwa [putSet_of _ t' R.dat] at z
  have hmask:t'.mask = m - 1:=by
   obtain ⟨t2,o2,e2,q1,_⟩:=zdT t (es.map (·.1)) hw (by rw [Array.size_map,R.ok.sz]; omega)
   rw [e] at e2
   cases e2
   rw [q1,em]
  refine h _ ns' _ (order.filterMap (es[·]?)) (ep + 1) t' (Heap.SameBut.update _ a _) ⟨hg,R.ex,rfl,pp,pn.nodup_iff.mpr R.nd,by rw [sz]; exact ok,fun z=>by rw [hl]; exact R.led z⟩ pn ?_
  rw [hmask]
  rw [R.ok.sz,hlen] at hlt
  lia
 ·have hr:t.roomFor more = none:=by unfold SetTable.roomFor; rw [if_neg hc]
  rw [hr]
  dsimp only
  refine wpAny_pure ?_
  have:=h s.heap ns o es ep t (Heap.SameBut.refl a s.heap) R (.refl _) (by rw [hfill,hlen] at hc; lia)
  cases s
  exact this
theorem zik {a:Addr} {ns:List Int} {Q:Array (Int × Value) → Shared → Prop} {o:Obj} {es:Array (Int × Value)} {ep:Nat} {t:SetTable} (R:RSet w s.heap a ns o es ep t) (others:List Addr) (f:Option Addr)
  (h:∀ es':Array (Int × Value),es'.toList.Perm es.toList → Q es' s) : wpAny (model prog w) A (setWalkUnseen a others f) Q E s:=by
 have walk:wpAny (model prog w) A (setWalk a) Q E s:=by
  unfold setWalk setsByText
  refine wpAny_bind (R.state ?_)
  dsimp only
  refine wpAny_bind (wpAny_bind (wpAny_askSetting (wpAny_pure ?_)))
  cases hb:byTx w with
  | true =>
   refine zcT hb (wpAny_bind (wpAny_askSetting (wpAny_pure (h _ (zfG _ es)))))
  | false =>
   refine zaI (by show ¬ (byTx w = true); rw [hb]; decide) ?_
   refine zaI (c:=((!t.plain && decide (es.size > 1)) = true)) (by rw [R.ok.plain]; simp) ?_
   refine wpAny_bind (zaI (c:=((!t.led && decide (es.size > 1)) = true)) (by rw [R.led hb]; simp) (wpAny_pure (wpAny_pure (h es (.refl _)))))
 unfold setWalkUnseen setsByText
 refine wpAny_bind (R.state ?_)
 dsimp only
 refine wpAny_bind (wpAny_bind (wpAny_askSetting (wpAny_pure ?_)))
 refine zcT ?_ walk
 rw [R.ok.plain,Bool.and_true]
 show (byTx w || t.led || decide (es.size ≤ 1)) = true
 cases hb:byTx w with
 | true=>rfl
 | false=>rw [R.led hb]; rfl
end
end Wr
namespace Wr
open PySem SetTable
section
variable {prog:Program} {w:World} {A:Around} {E:Value → Shared → Prop} {s:Shared}
theorem zg5 (led:Bool) : TOk (SetTable.fresh 0 0 led) 0:=⟨rfl,List.Pairwise.nil,(fun x h=>nomatch h),rfl,rfl,by show (8:Nat) ∈ zl9; decide,by show 0 * 5 < 7 * 3; decide⟩
abbrev zaq (led:Bool) : Obj:={ cls:=.type "set", dict:=none,data:=.set #[] 0 (.fresh 0 0 led) }
theorem zeE (h:Heap) : ISet w (h.push (zaq (!byTx w))) h.objs.size [] :=
 ⟨_,#[],0,_,Heap.get?_push_size _ rfl,⟨rfl,rfl,rfl⟩,rfl,.nil,List.nodup_nil,zg5 _,fun z=>by show (!byTx w) = true; rw [z]; rfl⟩
theorem zg7 {Q:Value → Shared → Prop} (h:Q (.ref s.heap.objs.size) { s with heap:=s.heap.push (zaq (!byTx w)) }) : wpAny (model prog w) A (newSet (.type "set")) Q E s:=by
 unfold newSet setsByText
 refine wpAny_bind (wpAny_bind (wpAny_askSetting (wpAny_pure ?_))); dsimp only
 simp only [newObj]
 exact wpAny_bind (wpAny_alloc (wpAny_pure h))
theorem zew {r a:Addr} {ms ns:List Int} {each:Sem Unit} {Q:Unit → Shared → Prop} (hra:r ≠ a) (hr:ISet w s.heap r ms) {o:Obj} {es:Array (Int × Value)} {ep:Nat} {t:SetTable} (Ra:RSet w s.heap a ns o es ep t) (hb:ms.length + ns.length < 127)
  (he:∀ (s':Shared) (Q':Unit → Shared → Prop),s'.heap.get? a = some o → Q' () s' → wpAny (model prog w) A each Q' E s')
  (h:∀ h' ms',Heap.SameBut r s.heap h' → ISet w h' r ms' → (∀ x,x ∈ ms' ↔ x ∈ ms ∨ x ∈ ns) → ms'.length ≤ ms.length + ns.length → Q () { s with heap:=h' }) :
  wpAny (model prog w) A (setMerge r a each) Q E s:=by
 have hlen:=Ra.len
 unfold setMerge
 refine zaI (by simpa using hra) ?_
 refine wpAny_bind (Ra.state ?_)
 dsimp only
 by_cases hem:es.isEmpty = true
 ·refine zcT hem (wpAny_pure ?_)
  have e0:ns = []:=by
   have z:es.size = 0:=by simpa using hem
   rw [hlen] at z
   exact List.length_eq_zero_iff.mp z
  have:=h s.heap ms (Heap.SameBut.refl r s.heap) hr (fun x=>by rw [e0]; simp) (by lia)
  cases s
  exact this
 refine zaI hem ?_
 refine wpAny_bind (zfH hr (by lia) fun h1 ms1 o1 es1 ep1 t1 sb1 R1 pm1 room1=>?_)
 rw [hlen] at room1
 have hlen1:=R1.len
 have hm1:ms1.length = ms.length:=pm1.length_eq
 have Ra1:RSet w h1 a ns o es ep t:=⟨(sb1.2 a (Ne.symm hra)).trans Ra.at',Ra.ex,Ra.dat,Ra.prs,Ra.nd,Ra.ok,Ra.led⟩
 refine wpAny_bind (R1.state (s:={ s with heap:=h1 }) ?_)
 dsimp only
 have hfill:t1.fill = es1.size:=by unfold SetTable.fill; rw [R1.ok.nod,R1.ok.sz]; rfl
 have ndd:t.dummies.isEmpty = true:=by rw [Ra.ok.nod]; rfl
 have hz:es.size ≤ sizeLine:=by rw [hlen]; exact fits_of_scanBound (by show _ < 4096; lia)
 by_cases hf:(t1.fill != 0) = true
 ·have hroad : t1.road t = .oneByOne := by unfold SetTable.road; rw [if_pos hf]
  rw [hroad]
  dsimp only
  refine wpAny_bind (zik (s:={ s with heap:=h1 }) Ra1 _ _ fun es' pes=>?_)
  obtain ⟨ns',pns,pp⟩:=zhw pes Ra.prs
  refine wpAny_bind (PySem.MeetsSeq2.wpAny_forIn_array _ (fun rest _ s'=>∃ h' ms' rs,s' = { s with heap:=h' } ∧ Heap.SameBut r s.heap h' ∧ ISet w h' r ms' ∧ Paired zhO rest rs ∧ (∀ x,(x ∈ ms' ∨ x ∈ rs) ↔ (x ∈ ms ∨ x ∈ ns)) ∧ ms'.length + rs.length ≤ ms.length + ns.length) _ ?_ ?_ es' PUnit.unit
   ⟨h1,ms1,ns',rfl,sb1,R1.iset,pp,fun x=>by rw [pm1.mem_iff,pns.mem_iff],by rw [hm1,pns.length_eq]; exact Nat.le_refl _⟩)
  ·rintro x rest b s' ⟨h',ms',rs,rfl,sb',hS',pr,mem',len'⟩
   cases pr with
   | cons rx rt =>
    rename_i n rs'
    obtain ⟨k1,tk,k2⟩:=rx
    obtain ⟨xh,xv⟩:=x
    have k1':xh = hashInt n:=k1
    have k2':xv = .int n tk:=k2
    subst k1' k2'
    rw [List.length_cons] at len'
    dsimp only
    refine wpAny_bind (wpAny_holding (zhc (s:={ s with heap:=h' }) hS' (by lia) fun h2 ms2 bb sb2 hS2 alt=>?_))
    have aa:h2.get? a = some o:=(sb2.2 a (Ne.symm hra)).trans ((sb'.2 a (Ne.symm hra)).trans Ra.at')
    refine wpAny_bind (he _ _ aa ?_)
    refine wpAny_bind (wpAny_setState_of (s:={ s with heap:=h2 }) aa Ra.dat Ra.ok.fits ?_)
    dsimp only
    refine zaI (by simp) (wpAny_pure ?_)
    refine ⟨h2,ms2,rs',rfl,sb'.trans sb2,hS2,rt,fun x=>?_,?_⟩
    ·rw [← mem' x,List.mem_cons]
     rcases alt with ⟨i1,rfl⟩ | ⟨i1,i2⟩
     ·constructor
      ·rintro (z | z)
       ·exact .inl z
       ·exact .inr (.inr z)
      ·rintro (z | z | z)
       ·exact .inl z
       ·rw [z]; exact .inl i1
       ·exact .inr z
     ·rw [i2.mem_iff,List.mem_cons]
      constructor
      ·rintro ((z | z) | z)
       ·exact .inr (.inl z)
       ·exact .inl z
       ·exact .inr (.inr z)
      ·rintro (z | z | z)
       ·exact .inl (.inr z)
       ·exact .inl (.inl z)
       ·exact .inr z
    ·rcases alt with ⟨_,rfl⟩ | ⟨_,i2⟩
     ·lia
     ·rw [i2.length_eq,List.length_cons]; lia
  ·rintro b s' ⟨h',ms',rs,rfl,sb',hS',pr,mem',len'⟩
   cases pr
   exact wpAny_pure (h h' ms' sb' hS' (fun x=>by rw [← mem' x]; simp) (by rw [List.length_nil] at len'; lia))
 ·have z0:es1.size = 0:=by
   have:t1.fill = 0:=by simpa using hf
   lia
  have ms0:ms = []:=by
   rw [hlen1,hm1] at z0
   exact List.length_eq_zero_iff.mp z0
  by_cases hm:(t1.mask == t.mask && t.dummies.isEmpty) = true
  ·have hroad:t1.road t = .slotForSlot:=by unfold SetTable.road; rw [if_neg hf,if_pos hm]
   rw [hroad]
   dsimp only
   refine wpAny_storeSet_of (s:={ s with heap:=h1 }) R1.at' R1.dat ?_ hz
   obtain ⟨_,hS2⟩:=zbO (w:=w) (es':=es) (t':={ t with finger:=t1.finger,led:=t1.led && t.led,moves:=t1.moves,plain:=t1.plain && t.plain }) (ns':=ns) R1.at' R1.ex R1.dat Ra.prs Ra.nd
    ⟨Ra.ok.sz,Ra.ok.rise,Ra.ok.inn,Ra.ok.nod,by show (t1.plain && t.plain) = true; rw [R1.ok.plain,Ra.ok.plain]; rfl,Ra.ok.msk,Ra.ok.room⟩ (fun z=>by show (t1.led && t.led) = true; rw [R1.led z,Ra.led z]; rfl)
   exact h _ ns (sb1.trans (Heap.SameBut.update _ r _)) hS2 (fun x=>by rw [ms0]; simp) (by lia)
  ·have hroad:t1.road t = .clean:=by unfold SetTable.road; rw [if_neg hf,if_neg hm]
   rw [hroad]
   dsimp only
   obtain ⟨t2,order,e,q1,q2,q3,q4,q5,q6,q7⟩:=zf6 (mask:=t1.mask) (zgf _ R1.ok.msk) t1.finger t1.moves (t1.led && t.led) (t1.plain && t.plain) (es.map (·.1)) (by rw [Array.size_map]; omega)
   rw [Array.size_map] at q6 q7
   have pk:=zcu es order q7
   have sz:(order.filterMap (es[·]?)).size = es.size:=by
    have z:=pk.length_eq
    rw [Array.length_toList,Array.length_toList] at z
    exact z
   rw [e]
   refine wpAny_bind (zaI (c:=((order.filterMap (es[·]?)).size != es.size) = true) (by rw [sz]; simp) (wpAny_pure ?_))
   dsimp only
   obtain ⟨ns2,pn2,pp2⟩:=zhw pk Ra.prs
   refine wpAny_storeSet_of (s:={ s with heap:=h1 }) R1.at' R1.dat ?_ (by rw [sz]; exact hz)
   have inn2:∀ x ∈ t2.place.toList,x ≤ t2.mask:=by
    rw [q1]
    exact laid_in e
   obtain ⟨_,hS2⟩:=zbO (w:=w) (es':=order.filterMap (es[·]?)) (t':=t2) (ns':=ns2) R1.at' R1.ex R1.dat pp2 (pn2.nodup_iff.mpr Ra.nd)
    ⟨by rw [sz]; exact q6,(zf8 e).1,inn2,q2,by rw [q5,R1.ok.plain,Ra.ok.plain]; rfl,by rw [q1]; exact R1.ok.msk,by rw [sz,q1,hlen]; lia⟩ (fun z=>by rw [q4,R1.led z,Ra.led z]; rfl)
   exact h _ ns2 (sb1.trans (Heap.SameBut.update _ r _)) hS2 (fun x=>by rw [ms0,pn2.mem_iff]; simp) (by rw [pn2.length_eq]; lia)
where
 laid_in {mask finger moves:Nat} {led plain:Bool} {hashes:Array Int} {t:SetTable} {order:Array Nat} (e:SetTable.laid mask finger moves led plain hashes = some (t,order)) : ∀ x ∈ t.place.toList,x ≤ mask:=by
  unfold SetTable.laid at e
  cases q:layClean mask hashes with
  | none=>rw [q] at e; cases e
  | some o =>
   rw [q] at e
   cases e
   intro x hx
   have hx':x ∈ ((List.range (mask + 1)).filterMap fun j=>(o.getD j none).map fun x=>(j,x)).map (·.1):=by simpa using hx
   obtain ⟨y,hy,rfl⟩:=List.mem_map.mp hx'
   obtain ⟨j,hj,hjy⟩:=List.mem_filterMap.mp hy
   have:=List.mem_range.mp hj
   cases q2:o.getD j none with
   | none=>rw [q2] at hjy; cases hjy
   | some z=>rw [q2] at hjy; cases hjy; show j ≤ mask; lia
theorem zbr {a:Addr} {ns:List Int} (hS:ISet w s.heap a ns) : s.TypeIs (.ref a) "set" := by
 obtain ⟨o,es,ep,t,R⟩:=hS.raw
 exact ⟨o,R.at',R.ex.1⟩
theorem ziz {a:Addr} {ns:List Int} {Q:Value → Shared → Prop} (hS:ISet w s.heap a ns) (hb:ns.length < 127)
  (h:∀ h' ms',(∀ b o,s.heap.get? b = some o → h'.get? b = some o) → ISet w h' s.heap.objs.size ms' → (∀ x,x ∈ ms' ↔ x ∈ ns) → ms'.length ≤ ns.length → Q (.ref s.heap.objs.size) { s with heap:=h' }) :
  wpAny (model prog w) A (Builtin.Frozenset.copyOf a) Q E s:=by
 obtain ⟨o,es,ep,t,R⟩:=hS.raw
 have hlt:a < s.heap.objs.size:=Heap.lt_size R.at'
 unfold Builtin.Frozenset.copyOf Builtin.Frozenset.baseOf
 refine wpAny_bind (wpAny_bind (wpAny_isInstance (zbr hS) sub_set_self (wpAny_pure ?_)))
 rw [if_pos rfl]
 refine wpAny_bind (zg7 ?_)
 have R1:RSet w (s.heap.push (zaq (!byTx w))) a ns o es ep t:=⟨Heap.get?_push_of_some _ R.at',R.ex,R.dat,R.prs,R.nd,R.ok,R.led⟩
 refine wpAny_bind (wpAny_pure ?_)
 refine wpAny_bind (zew (s:={ s with heap:=s.heap.push (zaq (!byTx w)) }) (Nat.ne_of_gt hlt) (zeE s.heap) R1 (by simpa using hb) (fun s' Q' _ hq=>wpAny_pure hq) fun h' ms' sb hS' mem len=>wpAny_pure ?_)
 exact h h' ms' (fun b ob q=>(sb.2 b (Nat.ne_of_lt (Heap.lt_size q))).trans (Heap.get?_push_of_some _ q)) hS' (fun x=>by rw [mem x]; simp) (by simpa using len)
end
end Wr
namespace Wr
open PySem SetTable
theorem zaQ:Slot "set_iterator" "__next__" "set_iterator.__next__" := .of (owner := "set_iterator") (n := "__next__") (by rw [typeLookup_type,builtinLookup_eq_fast]; kernel_rfl) (by decide +kernel) (by decide +kernel) (by decide +kernel) (by first | exact .inl (by decide +kernel) | exact .inr (by decide +kernel)) (by rw [isSubtype_type]; kernel_rfl)
theorem zcS:Slot "set_iterator" "__iter__" "set_iterator.__iter__" := .of (owner := "set_iterator") (n := "__iter__") (by rw [typeLookup_type,builtinLookup_eq_fast]; kernel_rfl) (by decide +kernel) (by decide +kernel) (by decide +kernel) (by first | exact .inl (by decide +kernel) | exact .inr (by decide +kernel)) (by rw [isSubtype_type]; kernel_rfl)
theorem zcn:entryFor table "set_iterator.__next__" = some Builtin.«set_iterator.__next__» := entryFor_of_tree (by kernel_rfl)
theorem zcR (a:Value) : argsOk "set_iterator.__next__" ⟨[a],[]⟩:=by unfold argsOk; kernel_rfl
theorem zdQ:entryFor table "set.__iter__" = some Builtin.«frozenset.__iter__» := entryFor_alias (id' := "frozenset.__iter__") (by kernel_rfl) rfl (by decide +kernel) (by kernel_rfl)
theorem ze4:entryFor table "set.__or__" = some Builtin.«frozenset.__or__» := entryFor_alias (id' := "frozenset.__or__") (by kernel_rfl) rfl (by decide +kernel) (by kernel_rfl)
def zmI (h:Heap) (it a:Addr) (slot i n ep:Nat) : Prop:=∃ o,h.get? it = some o ∧ o.cls = .type "set_iterator" ∧ o.data = .fields #[rawInt slot,rawInt i,.ref a,rawInt n,rawInt ep]
section
variable {prog:Program} {w:World} {A:Around} {E:Value → Shared → Prop} {s:Shared}
def walked (w:World) (a:Addr) (es:Array (Int × Value)) (ep:Nat) : Array (Int × Value):=if byTx w then pickOrder (w.params.setOrder a ep) es else es
theorem zbS (w:World) (a:Addr) (es:Array (Int × Value)) (ep:Nat) : (walked w a es ep).toList.Perm es.toList:=by
 unfold walked
 split
 ·exact zfG _ _
 ·exact .refl _
theorem znD {l:List Nat} (h:Rise l) {i:Nat} (hi:i < l.length) : cnt l (l[i] + 1) = i + 1:=by
 have below:∀ k (hk:k < l.length),k ≤ i → k < cnt l (l[i] + 1):=fun k hk hki=>by
  refine (zaX h k l[k] (by simp [hk]) _).mp ?_
  rcases Nat.lt_or_eq_of_le hki with z | z
  ·have:=List.pairwise_iff_getElem.mp h k i hk hi z; lia
  ·subst z; lia
 have above:∀ k (hk:k < l.length),i < k → ¬ k < cnt l (l[i] + 1):=fun k hk hik z=>by
  have q:=(zaX h k l[k] (by simp [hk]) _).mpr z
  have:=List.pairwise_iff_getElem.mp h i k hi hk hik
  lia
 have h1:=below i hi (Nat.le_refl _)
 have h3:=zly l (l[i] + 1)
 by_cases hlast:i + 1 < l.length
 ·have:=above (i + 1) hlast (by lia)
  lia
 ·lia
structure SSt (w:World) (h:Heap) (it a:Addr) (ns:List Int) (o:Obj) (es:Array (Int × Value)) (ep:Nat) (t:SetTable) (i:Nat) : Prop where
 ex:∃ slot,zmI h it a slot i es.size ep ∧ (byTx w = false → cnt t.place.toList slot = i)
 rs:RSet w h a ns o es ep t
theorem zg9 {a:Addr} {ns:List Int} {o:Obj} {es:Array (Int × Value)} {ep:Nat} {t:SetTable} (R:RSet w s.heap a ns o es ep t) {slot i:Nat} (hs:byTx w = false → cnt t.place.toList slot = i) {Q:Option (Value × Nat) → Shared → Prop}
  (h1:∀ v next,((walked w a es ep)[i]?).map (·.2) = some v → (byTx w = false → cnt t.place.toList next = i + 1) → Q (some (v,next)) s) (h2:es.size ≤ i → Q none s) : wpAny (model prog w) A (setNext a slot i ep) Q E s:=by
 unfold setNext setsByText
 refine wpAny_bind (R.state ?_); dsimp only
 refine wpAny_bind (wpAny_bind (wpAny_askSetting (wpAny_pure ?_)))
 cases hb:byTx w with
 | true =>
  refine zcT hb ?_
  refine zaI (by simp) ?_
  have wk:wpAny (model prog w) A (setWalk a) (fun es' s'=>s' = s ∧ es' = walked w a es ep) E s:=by
   unfold setWalk setsByText
   refine wpAny_bind (R.state ?_); dsimp only
   refine wpAny_bind (wpAny_bind (wpAny_askSetting (wpAny_pure (zcT hb ?_))))
   refine wpAny_bind (wpAny_askSetting (wpAny_pure ⟨rfl,?_⟩))
   unfold walked
   rw [if_pos hb]
   rfl
  refine wpAny_bind (wpAny_mono wk (fun es' s' ⟨e1,e2⟩=>?_) fun _ _ z=>z)
  subst e1 e2
  refine wpAny_pure ?_
  cases q:(walked w a es ep)[i]? with
  | none =>
   refine h2 ?_
   have z:(walked w a es ep).size ≤ i:=by simpa using q
   have y:=(zbS w a es ep).length_eq
   rw [Array.length_toList,Array.length_toList] at y
   lia
  | some x=>exact h1 x.2 slot (by rw [q]; rfl) fun z=>by rw [hb] at z; cases z
 | false =>
  refine zaI (by show ¬ (byTx w = true); rw [hb]; decide) ?_
  refine zaI (c:=((!t.plain && decide (es.size > 1)) = true)) (by rw [R.ok.plain]; simp) ?_
  refine wpAny_bind (zaI (c:=((!t.led && !es.isEmpty) = true)) (by rw [R.led hb]; simp) (wpAny_pure ?_))
  have ew:walked w a es ep = es:=by unfold walked; rw [if_neg (by rw [hb]; decide)]
  have eb:below t.place slot = i:=by rw [zeO R.ok.rise]; exact hs hb
  rw [eb]
  refine wpAny_pure ?_
  by_cases hi:i < es.size
  ·have hi2:i < t.place.size:=by rw [R.ok.sz]; exact hi
   have e1:es[i]? = some es[i]:=by simp [hi]
   have e2:t.place[i]? = some t.place[i]:=by simp [hi2]
   rw [e1,e2]
   refine h1 es[i].2 (t.place[i] + 1) (by rw [ew,e1]; rfl) fun _=>?_
   have:=znD R.ok.rise (i:=i) (by simpa using hi2)
   simpa using this
  ·have e1:es[i]? = none:=by simp; lia
   rw [e1]
   exact h2 (by lia)
theorem zjJ {h h':Heap} {it a:Addr} {slot i n ep:Nat} (x:zmI h it a slot i n ep) (k:∀ o,h.get? it = some o → h'.get? it = some o) : zmI h' it a slot i n ep:=let ⟨o,e,r⟩:=x; ⟨o,k _ e,r⟩
theorem zkc {it a:Addr} {ns:List Int} {o:Obj} {es:Array (Int × Value)} {ep:Nat} {t:SetTable} {i:Nat} {Q:Option Value → Shared → Prop} (hne:a ≠ it) (st:SSt w s.heap it a ns o es ep t i) (hi:i < es.size)
  (hQ:∀ v h',((walked w a es ep)[i]?).map (·.2) = some v → SSt w h' it a ns o es ep t (i + 1) → Heap.SameBut it s.heap h' → Q (some v) { s with heap:=h' }) : wpAny (model prog w) A (pyNext (.ref it)) Q E s:=by
 obtain ⟨⟨slot,hit,hsl⟩,R⟩:=st
 obtain ⟨oi,ho,hc,hd⟩:=id hit
 have hT:s.TypeIs (.ref it) "set_iterator" := ⟨oi,ho,hc⟩
 unfold pyNext
 refine wpAny_bind (wpAny_attempt (wpAny_callSpecial?_slot (name:=Str.ofString "__next__") hT zaQ (wpAny_call_entry zaQ hT zcn ?_ (zcR _))))
 unfold Builtin.«set_iterator.__next__»
 refine wpAny_bind (wpAny_pure ?_); dsimp only
 refine wpAny_bind (wpAny_fieldsOf ho hd ?_)
 show wpAny _ _ (setEntries a >>= _) _ _ _
 refine wpAny_bind (wpAny_setEntries_of R.at' R.dat R.ok.fits ?_)
 refine zaI (by simp) ?_
 show wpAny _ _ (setNext a slot i ep >>= _) _ _ _
 refine wpAny_bind (zg9 R hsl (fun v next hv hn=>?_) fun z=>absurd z (by omega))
 dsimp only
 refine wpAny_bind (wpAny_setField ho hd (by simp) ?_)
 have hg1:(s.heap.update it (Obj.mapFields (·.setIfInBounds 0 (rawInt next)))).get? it = some (Obj.mapFields (·.setIfInBounds 0 (rawInt next)) oi):=Heap.get?_update_self _ ho (Obj.isFreed_of_fields (Obj.data_mapFields hd _))
 have hd1:=Obj.data_mapFields hd (fun x:Array Value=>x.setIfInBounds 0 (rawInt next))
 refine wpAny_bind (wpAny_setField (s:={ s with heap:=s.heap.update it (Obj.mapFields (·.setIfInBounds 0 (rawInt next))) }) hg1 hd1 (by simp) ?_)
 have sb:Heap.SameBut it s.heap ((s.heap.update it (Obj.mapFields (·.setIfInBounds 0 (rawInt next)))).update it (Obj.mapFields (·.setIfInBounds 1 (rawInt ((i:Int) + 1))))):=(Heap.SameBut.update ..).trans (Heap.SameBut.update ..)
 have hg2:=Heap.get?_update_self (Obj.mapFields (·.setIfInBounds 1 (rawInt ((i:Int) + 1)))) hg1 (Obj.isFreed_of_fields (Obj.data_mapFields hd1 _))
 refine wpAny_pure ⟨_,rfl,wpAny_pure (hQ v _ hv ⟨⟨next,⟨_,hg2,(Obj.cls_mapFields ..).trans ((Obj.cls_mapFields ..).trans hc),?_⟩,hn⟩,⟨(sb.2 a hne).trans R.at',R.ex,R.dat,R.prs,R.nd,R.ok,R.led⟩⟩ sb)⟩
 rw [Obj.data_mapFields hd1]
 simp [rawInt]
theorem zlP {it a:Addr} {ns:List Int} {o:Obj} {es:Array (Int × Value)} {ep:Nat} {t:SetTable} {Q:Option Value → Shared → Prop} (hh:A.handled = none) (st:SSt w s.heap it a ns o es ep t es.size)
  (hQ:∀ h',Heap.ExtBut it s.heap h' → Q none { s with heap:=h' }) : wpAny (model prog w) A (pyNext (.ref it)) Q E s:=by
 obtain ⟨⟨slot,hit,hsl⟩,R⟩:=st
 obtain ⟨oi,ho,hc,hd⟩:=id hit
 have hT:s.TypeIs (.ref it) "set_iterator" := ⟨oi,ho,hc⟩
 unfold pyNext
 refine wpAny_bind (wpAny_attempt (wpAny_callSpecial?_slot (name:=Str.ofString "__next__") hT zaQ (wpAny_call_entry zaQ hT zcn ?_ (zcR _))))
 unfold Builtin.«set_iterator.__next__»
 refine wpAny_bind (wpAny_pure ?_); dsimp only
 refine wpAny_bind (wpAny_fieldsOf ho hd ?_)
 show wpAny _ _ (setEntries a >>= _) _ _ _
 refine wpAny_bind (wpAny_setEntries_of R.at' R.dat R.ok.fits ?_)
 refine zaI (by simp) ?_
 show wpAny _ _ (setNext a slot es.size ep >>= _) _ _ _
 have wl:(walked w a es ep).size = es.size:=by
  have y:=(zbS w a es ep).length_eq
  rwa [Array.length_toList,Array.length_toList] at y
 refine wpAny_bind (zg9 R hsl (fun v next hv hn=>?_) fun _=>?_)
 ·rw [Array.getElem?_eq_none (by lia)] at hv
  cases hv
 dsimp only
 refine wpAny_bind (wpAny_setField ho hd (by simp) ?_)
 refine wpAny_bind ?_
 simp only [newExc,newTuple]
 refine wpAny_bind (wpAny_newObj_type (wpAny_bind (m:=firstArgMember _ _) (wpAny_of_eq (a:=Value.none) (by first | rfl | (simp only [firstArgMember]; rfl)) (wpAny_newObj_type ?_ (by size_fits)))) (by size_fits))
 simp only [raiseNew]
 refine wpAny_bind (wpAny_handled ?_); rw [show A.in1.handled = none from hh]
 refine wpAny_bind (wpAny_pure (wpAny_throw ?_)); refine wpAny_bind (wpAny_isInstance (T := "StopIteration") (b:=true) ⟨_,Heap.get?_push_size _ rfl,rfl⟩ isSubtype_stop ?_)
 exact wpAny_pure (hQ _ (((Heap.SameBut.update ..).extBut.push _).push _))
end
end Wr
namespace Wr
open PySem SetTable PyProof.Rows
section
variable {prog:Program} {w:World} {A:Around} {E:Value → Shared → Prop} {s:Shared}
theorem zja (hh:A.handled = none) (it a:Addr) (hne:a ≠ it) (ns:List Int) (o:Obj) (es:Array (Int × Value)) (ep:Nat) (t:SetTable) :
  Walks prog w A it [it,a] [it] es.size (fun i v=>((walked w a es ep)[i]?).map (·.2) = some v) (fun i h=>SSt w h it a ns o es ep t i) where
 sub:=fun b hb=>by simp at hb; simp [hb]
 frame:=fun i h h' st hk=>⟨let ⟨sl,x,y⟩:=st.ex; ⟨sl,zjJ x fun o e=>hk it (by simp) o e,y⟩,⟨hk a (by simp) _ st.rs.at',st.rs.ex,st.rs.dat,st.rs.prs,st.rs.nd,st.rs.ok,st.rs.led⟩⟩
 item:=fun i s Q E hi st hQ=>zkc hne st hi fun v h' hv st' sb=>hQ v h' s.toks hv st' fun b o hb e=>(sb.2 b (fun z=>hb (by simp [z]))).trans e
 done:=fun s Q E st hQ=>zlP hh st fun h' he=>hQ h' s.toks fun b o hb e=>he b o (fun z=>hb (by simp [z])) e
 self:=fun i s Q E st hQ=>by
  obtain ⟨sl,⟨oi,ho,hc,hd⟩,_⟩:=st.ex
  have hT:s.TypeIs (.ref it) "set_iterator" := ⟨oi,ho,hc⟩
  refine wpAny_pyIter_slot hT zcS (wpAny_call_entry zcS hT (entryFor_alias (id' := "dict_keyiterator.__iter__") (by kernel_rfl) rfl (by decide +kernel) (by kernel_rfl) : entryFor table "set_iterator.__iter__" = some Builtin.«dict_keyiterator.__iter__») ?_ (by unfold argsOk; kernel_rfl))
  exact wpAny_pure ⟨_,rfl,"set_iterator", _,hT,zaQ.lookup,hQ⟩
theorem zkZ {a:Addr} {ns:List Int} {o:Obj} {es:Array (Int × Value)} {ep:Nat} {t:SetTable} {Q:Value → Shared → Prop} (R:RSet w s.heap a ns o es ep t)
  (h:∀ oi,SSt w (s.heap.push oi) s.heap.objs.size a ns o es ep t 0 → Q (.ref s.heap.objs.size) { s with heap:=s.heap.push oi }) : wpAny (model prog w) A (pyIter (.ref a)) Q E s:=by
 have hT:s.TypeIs (.ref a) "set" := ⟨o,R.at',R.ex.1⟩
 refine wpAny_pyIter_slot hT F.slot_set_iter (wpAny_call_entry F.slot_set_iter hT zdQ ?_ (F.args_set_iter_1 _))
 unfold Builtin.«frozenset.__iter__» Builtin.Frozenset.slot0 Builtin.Frozenset.sizeOf setDrawn setsByText
 refine wpAny_bind (wpAny_bind (wpAny_pure (wpAny_pure ?_)))
 refine wpAny_bind (wpAny_bind (wpAny_setEntries_of R.at' R.dat R.ok.fits (wpAny_pure ?_)))
 refine wpAny_bind (wpAny_bind (R.state (wpAny_bind (wpAny_bind (wpAny_askSetting (wpAny_pure (wpAny_pure ?_)))))))
 refine zaI (c:=((!byTx w && (!t.plain && decide (es.size > 1))) = true)) (by rw [R.ok.plain]; simp) (wpAny_bind (wpAny_pure ?_))
 refine wpAny_bind (wpAny_setEpoch_of R.at' R.dat R.ok.fits ?_)
 simp only [newFields]
 refine wpAny_bind (wpAny_newObj_type ?_ (by size_fits))
 have hg:(s.heap.push { cls:=.type "set_iterator", data:=.fields #[rawInt 0,rawInt 0,.ref a,rawInt es.size,rawInt ep] }).get? s.heap.objs.size = some { cls:=.type "set_iterator", data:=.fields #[rawInt 0,rawInt 0,.ref a,rawInt es.size,rawInt ep] }:=Heap.get?_push_size _ rfl
 refine wpAny_pure ⟨_,rfl,"set_iterator", _,⟨_,hg,rfl⟩,zaQ.lookup,h _ ⟨⟨0,⟨_,hg,rfl,rfl⟩,fun _=>?_⟩,⟨Heap.get?_push_of_some _ R.at',R.ex,R.dat,R.prs,R.nd,R.ok,R.led⟩⟩⟩
 unfold cnt
 simp
end
end Wr
namespace Wr
open PySem SetTable PyProof.Rows
section
variable {prog:Program} {w:World} {A:Around} {E:Value → Shared → Prop} {s:Shared}
theorem collect_byD {c d:Addr} {T:String} {n:Nat} {P:Nat → Value → Prop} {St:Addr → Nat → Heap → Prop} {Q:List Value → Shared → Prop} (hc:c < s.heap.objs.size) (hd:d < s.heap.objs.size)
  (hT:∀ h':Heap,(∀ b o,s.heap.get? b = some o → h'.get? b = some o) → ({ s with heap:=h' } : Shared).TypeIs (.ref c) T) (h1:(Value.type T == Value.type "list") = false) (h2:(Value.type T == Value.type "tuple") = false)
  (hit:∀ (h':Heap) (Q':Value → Shared → Prop),(∀ b o,s.heap.get? b = some o → h'.get? b = some o) → s.heap.objs.size ≤ h'.objs.size →
   (∀ it h'',h'.objs.size ≤ it → (∀ b o,h'.get? b = some o → h''.get? b = some o) → St it 0 h'' → Q' (.ref it) { s with heap:=h'' }) → wpAny (model prog w) A.in1 (pyIter (.ref c)) Q' E { s with heap:=h' })
  (hint:∀ (h':Heap) (Q':Bool → Shared → Prop),(∀ b o,s.heap.get? b = some o → h'.get? b = some o) → Q' false { s with heap:=h' } → wpAny (model prog w) A.in1 (Builtin.List.listLengthHint (.ref c)) Q' E { s with heap:=h' })
  (W:∀ it,d ≠ it → Walks prog w A.in1 it [it,d] [it] n P (St it)) (hn:n ≤ sizeLine)
  (hQ:∀ h' tk acc,(∀ b o,s.heap.get? b = some o → h'.get? b = some o) → s.heap.objs.size < h'.objs.size → s.toks ≤ tk → ItemsOf P acc n → Q acc.toList { s with heap:=h',toks:=tk }) : wpAny (model prog w) A (collect (.ref c)) Q E s:=by
 unfold collect
 refine wpAny_bind (wpAny_runValue (codeAny_builtin F.entry_proto_collect ?_)); rw [Around.under_plainId F.plain_proto_collect _]
 show wpAny _ A.in1 (newList [] >>= fun l=>again (.builtin "list.__iadd__" ⟨[l,.ref c],[]⟩)) _ _ s
 refine wpAny_bind (wpAny_newObj_type ?_ (by size_fits))
 refine wpAny_pure ⟨plainId_quiet F.plain_list_iadd _,codeAny_builtin F.entry_list_iadd ?_⟩; rw [Around.under_plainId F.plain_list_iadd _]
 show wpAny _ A.in1 (Builtin.List.listExtendWith (.ref s.heap.objs.size) (.ref c) (.ref s.heap.objs.size)) _ _ _
 unfold Builtin.List.listExtendWith
 have k0:∀ b o,s.heap.get? b = some o → (s.heap.push (seqObj "list" #[] 0)).get? b = some o:=fun b o e=>Heap.get?_push_of_some _ e
 refine wpAny_bind (wpAny_typeOf (hT _ k0) ?_)
 have hS:Builtin.List.listSameRef (.ref s.heap.objs.size) (.ref c) = false:=by simp [Builtin.List.listSameRef]; exact Nat.ne_of_gt hc
 simp only [hS,h1,h2,Bool.or_false,Bool.false_eq_true,if_false]
 refine wpAny_bind (hit _ _ k0 (by rw [Heap.size_push]; lia) fun it h'' hge kk st=>?_)
 have k2:∀ b o,s.heap.get? b = some o → h''.get? b = some o:=fun b o e=>kk b o (k0 b o e)
 refine wpAny_bind (wpAny_holding (hint h'' _ k2 ?_))
 have hitS:s.heap.objs.size < it:=Nat.lt_of_lt_of_le (by rw [Heap.size_push]; exact Nat.lt_succ_self _) hge
 have hcit:d ≠ it:=Nat.ne_of_lt (Nat.lt_trans hd hitS)
 have hSf:s.heap.objs.size ∉ [it,d]:=by
  intro z
  rcases List.mem_cons.mp z with z | z
  ·exact absurd z (Nat.ne_of_lt hitS)
  ·exact absurd (List.mem_singleton.mp z) (Nat.ne_of_gt hd)
 have hS2:h''.get? s.heap.objs.size = some (seqObj "list" #[] 0):=kk _ _ (Heap.get?_push_size _ rfl)
 have loop:∀ (h3:Heap) (cc:Nat),h3.get? s.heap.objs.size = some (seqObj "list" #[] cc) → (∀ b o,b ≠ s.heap.objs.size → h''.get? b = some o → h3.get? b = some o) →
   codeAny (model prog w) A (.builtin "list.extend.loop" ⟨[.ref s.heap.objs.size,.ref it,.ref s.heap.objs.size],[]⟩) (fun r s'=>match r with
    | .ok (.ret v)=>wpAny (model prog w) A (match v with
     | .ref a=>(do let o ← load a; match o.data with | .seq xs _=>pure xs.toList | _=>unsupported "internal:collect")
     | _=>unsupported "internal:collect") Q E s'
    | .ok _=>False
    | .error e=>E e s') { s with heap:=h3 }:=by
  intro h3 cc hS3 k3
  have st3:St it 0 h3:=(W it hcit).frame 0 h'' h3 st fun b hb o e=>k3 b o (fun z=>hSf (z ▸ hb)) e
  refine codeAny_extend_loopS (W it hcit).toS hn s.heap.objs.size hSf (.ref s.heap.objs.size) n 0 { s with heap:=h3 } #[] cc (by lia) (Nat.zero_le _) st3 hS3 (ItemsOf.nil P) fun s' acc' c' hm hS' hacc=>?_
  refine wpAny_bind (wpAny_load hS' (wpAny_pure ?_))
  obtain ⟨h4,g4,d4,t4,o4⟩:=s'
  obtain ⟨m1,m2,m3,m4,m5⟩:=hm
  obtain rfl:g4 = s.gens:=m2
  obtain rfl:d4 = s.drawn:=m3
  obtain rfl:o4 = s.os:=m4
  refine hQ h4 t4 acc' (fun b o e=>?_) (Heap.lt_size hS') m5 hacc
  have hb:b < s.heap.objs.size:=Heap.lt_size e
  refine m1 b o (fun z=>?_) (k3 b o (Nat.ne_of_lt hb) (k2 b o e))
  rcases List.mem_cons.mp z with z | z
  ·exact absurd z (Nat.ne_of_lt hb)
  ·exact absurd (List.mem_singleton.mp z) (Nat.ne_of_lt (Nat.lt_trans hb hitS))
 split
 ·refine wpAny_bind (wpAny_rule (wpAny_bind ?_))
  show wpAny _ A.in1 (updateSeq s.heap.objs.size (·.push .none) >>= fun _=>updateSeq s.heap.objs.size (·.pop)) _ _ _
  refine wpAny_bind (wpAny_updateSeq hS2 rfl ?_)
  have q1:=Heap.get?_update_self (Obj.mapSeq (·.push Value.none)) hS2 rfl
  refine wpAny_updateSeq q1 rfl ?_
  have q2:=Heap.get?_update_self (Obj.mapSeq (·.pop)) q1 rfl
  exact wpAny_pure ⟨plainId_quiet F.plain_extend_loop _,loop _ _ q2 fun b o hb e=>(Heap.get?_update_other _ _ (Ne.symm hb)).trans ((Heap.get?_update_other _ _ (Ne.symm hb)).trans e)⟩
 ·exact wpAny_pure ⟨plainId_quiet F.plain_extend_loop _,loop _ _ hS2 fun b o _ e=>e⟩
theorem zhN {c:Addr} {T:String} {n:Nat} {P:Nat → Value → Prop} {St:Addr → Nat → Heap → Prop} {Q:List Value → Shared → Prop} (hc:c < s.heap.objs.size)
  (hT:∀ h':Heap,(∀ b o,s.heap.get? b = some o → h'.get? b = some o) → ({ s with heap:=h' } : Shared).TypeIs (.ref c) T) (h1:(Value.type T == Value.type "list") = false) (h2:(Value.type T == Value.type "tuple") = false)
  (hit:∀ (h':Heap) (Q':Value → Shared → Prop),(∀ b o,s.heap.get? b = some o → h'.get? b = some o) → s.heap.objs.size ≤ h'.objs.size →
   (∀ it h'',h'.objs.size ≤ it → (∀ b o,h'.get? b = some o → h''.get? b = some o) → St it 0 h'' → Q' (.ref it) { s with heap:=h'' }) → wpAny (model prog w) A.in1 (pyIter (.ref c)) Q' E { s with heap:=h' })
  (hint:∀ (h':Heap) (Q':Bool → Shared → Prop),(∀ b o,s.heap.get? b = some o → h'.get? b = some o) → Q' false { s with heap:=h' } → wpAny (model prog w) A.in1 (Builtin.List.listLengthHint (.ref c)) Q' E { s with heap:=h' })
  (W:∀ it,c ≠ it → Walks prog w A.in1 it [it,c] [it] n P (St it)) (hn:n ≤ sizeLine)
  (hQ:∀ h' tk acc,(∀ b o,s.heap.get? b = some o → h'.get? b = some o) → s.heap.objs.size < h'.objs.size → s.toks ≤ tk → ItemsOf P acc n → Q acc.toList { s with heap:=h',toks:=tk }) : wpAny (model prog w) A (collect (.ref c)) Q E s :=
 collect_byD hc hc hT h1 h2 hit hint W hn hQ
end
end Wr
namespace Wr
open PySem SetTable PyProof.Rows
section
variable {prog:Program} {w:World} {A:Around} {E:Value → Shared → Prop} {s:Shared}
theorem zkB {c:Addr} {Q:Bool → Shared → Prop} (hT:s.TypeIs (.ref c) "set") (h:Q false s) : wpAny (model prog w) A (Builtin.List.listLengthHint (.ref c)) Q E s:=by
 unfold Builtin.List.listLengthHint
 refine wpAny_bind (wpAny_specialOf hT F.slot_set_len.lookup ?_)
 have hsp:splitId "set.__len__" = some ("set","__len__"):=by kernel_rfl
 dsimp only
 rw [hsp]
 dsimp only
 refine wpAny_bind (wpAny_isInstance hT sub_set_self ?_)
 refine zaI (by simp) ?_
 refine zcT (by kernel_rfl) ?_
 exact wpAny_bind (wpAny_typeOf hT (wpAny_pure h))
theorem zhW {a:Addr} {ns:List Int} {o:Obj} {es:Array (Int × Value)} {ep:Nat} {t:SetTable} {h:Heap} (R:RSet w h a ns o es ep t) {acc:Array Value} (x:ItemsOf (fun i v=>((walked w a es ep)[i]?).map (·.2) = some v) acc es.size) :
  ∃ ns',ns'.Perm ns ∧ IntsAre acc.toList ns':=by
 obtain ⟨ns',pn,pp⟩:=zhw (zbS w a es ep) R.prs
 refine ⟨ns',pn,?_⟩
 have wl:(walked w a es ep).size = es.size:=by
  have y:=(zbS w a es ep).length_eq
  rwa [Array.length_toList,Array.length_toList] at y
 have e:acc.toList = (walked w a es ep).toList.map (·.2):=by
  apply List.ext_getElem
  ·rw [Array.length_toList,List.length_map,Array.length_toList,x.1,wl]
  ·intro i hi hi2
   rw [Array.length_toList] at hi
   have z:=x.2 i acc[i] (by simp [hi])
   rw [List.length_map,Array.length_toList] at hi2
   rw [Array.getElem?_eq_getElem hi2] at z
   simp at z ⊢
   exact z.symm
 rw [e]
 have all:∀ {l:List (Int × Value)} {m:List Int},Paired zhO l m → IntsAre (l.map (·.2)) m:=by
  intro l m p
  induction p with
  | nil=>exact .nil
  | cons r _ ih =>
   obtain ⟨_,t,e⟩:=r
   rw [List.map_cons,e]
   exact .cons _ _ ih
 exact all pp
theorem iset_sorted {a:Addr} {ns:List Int} {Q:Value → Shared → Prop} (hh:A.handled = none) (hS:ISet w s.heap a ns) (h64:ns.length < 64)
  (h:∀ (D:Addr) (h':Heap) (vs:List Value) (c:Nat) (ns':List Int) (tk:Nat),(∀ b o,s.heap.get? b = some o → h'.get? b = some o) → s.heap.objs.size ≤ D → h'.get? D = some (seqObj "list" vs.toArray c) → IntsAre vs ns' → ns'.Perm ns → ns'.Pairwise (· ≤ ·) →
   Q (.ref D) { s with heap:=h',toks:=tk }) : wpAny (model prog w) A (call (.builtin "sorted") [.ref a]) Q E s:=by
 obtain ⟨o,es,ep,t,R⟩:=hS.raw
 have hlen:=R.len
 refine Calls.call_function_entry kind_sorted plain_sorted entry_sorted (args_sorted1 _) ?_
 unfold Builtin.«sorted»
 refine wpAny_bind (m:=checkCount "sorted" 1 1 _) (wpAny_pure (wpAny_bind ?_))
 have hz:es.size ≤ sizeLine:=by rw [hlen]; exact fits_of_scanBound (by show _ < 4096; lia)
 refine zhN (A:=A.in1) (T := "set") (n:=es.size) (P:=fun i v=>((walked w a es ep)[i]?).map (·.2) = some v) (St:=fun it i h=>SSt w h it a ns o es ep t i) (Heap.lt_size R.at') (fun h' k=>⟨o,k _ _ R.at',R.ex.1⟩) (by decide) (by decide)
  (fun h' Q' k hge hq=>?_) (fun h' Q' k hq=>zkB ⟨o,k _ _ R.at',R.ex.1⟩ hq) (fun it hne=>zja (by simpa using hh) it a hne ns o es ep t) hz fun h1 tk acc k1 hsz htk items=>?_
 ·refine zkZ (s:={ s with heap:=h' }) ⟨k _ _ R.at',R.ex,R.dat,R.prs,R.nd,R.ok,R.led⟩ fun oi st=>?_
  exact hq h'.objs.size _ (Nat.le_refl _) (fun b o e=>Heap.get?_push_of_some _ e) st
 obtain ⟨ns1,pn1,intsA⟩:=zhW R items
 have l64:acc.toList.length < 64:=by rw [intsA.length,pn1.length_eq]; exact h64
 refine wpAny_bind (wpAny_newList ?_ (by rw [Array.length_toList,items.1]; exact hz))
 have hoL:(h1.push (seqObj "list" acc.toList.toArray 0)).get? h1.objs.size = some (seqObj "list" acc.toList.toArray 0):=Heap.get?_push_size _ rfl
 refine wpAny_bind (wpAny_holding (wpAny_call_entry (s:={ s with heap:=h1.push (seqObj "list" acc.toList.toArray 0),toks:=tk }) slot_list_sort ⟨_,hoL,rfl⟩ entry_list_sort (list_sort_tree hoL intsA l64 fun out ns2 i1 i2 i3=>⟨_,rfl,?_⟩) (args_list_sort _)))
 obtain ⟨e,he⟩:=sortedHeap_at (out:=out) hoL
 refine wpAny_pure ⟨_,rfl,h h1.objs.size _ out.toList e ns2 tk (fun b ob q=>?_) (Nat.le_of_lt hsz) (by rw [Array.toArray_toList]; exact he) i1 (i2.trans pn1) i3⟩
 have hb:b < h1.objs.size:=Heap.lt_size (k1 b ob q)
 rw [sortedHeap_old (Nat.ne_of_lt hb) (by rw [Heap.size_push]; exact Nat.lt_succ_of_lt hb)]
 exact Heap.get?_push_of_some _ (k1 b ob q)
end
end Wr
namespace Wr
open PySem SetTable PyProof.Rows
section
variable {prog:Program} {w:World} {A:Around} {E:Value → Shared → Prop} {s:Shared}
theorem zgC {v:Value} {Q:Bool → Shared → Prop} (hT:s.TypeIs v "set") (h:Q true s) : wpAny (model prog w) A (Builtin.Frozenset.isAnySet v) Q E s:=by
 unfold Builtin.Frozenset.isAnySet
 exact wpAny_bind (wpAny_isInstance hT sub_set_self (wpAny_pure h))
theorem zn3 {v:Value} {T:String} {Q:Bool → Shared → Prop} (hT:s.TypeIs v T) (h1:isSubtype (.type T) (.type "set") = pure false) (h2:isSubtype (.type T) (.type "frozenset") = pure false) (h:Q false s) : wpAny (model prog w) A (Builtin.Frozenset.isAnySet v) Q E s:=by
 unfold Builtin.Frozenset.isAnySet
 exact wpAny_bind (wpAny_isInstance hT h1 (wpAny_isInstance hT h2 h))
theorem iset_or {a b:Addr} {ns ms:List Int} {Q:Value → Shared → Prop} (hab:a ≠ b) (ha:ISet w s.heap a ns) (hb:ISet w s.heap b ms) (hl:ns.length + ms.length < 127)
  (h:∀ h' ks,(∀ b o,s.heap.get? b = some o → h'.get? b = some o) → ISet w h' s.heap.objs.size ks → (∀ x,x ∈ ks ↔ x ∈ ns ∨ x ∈ ms) → ks.length ≤ ns.length + ms.length → Q (.ref s.heap.objs.size) { s with heap:=h' }) :
  wpAny (model prog w) A (binaryOp .BitOr (.ref a) (.ref b)) Q E s:=by
 refine wpAny_binaryOp_same (T := "set") (id := "set.__or__") (zbr ha) (zbr hb) F.fills_set_or F.slot_set_or (wpAny_call_entry F.slot_set_or (zbr ha) ze4 ?_ (F.args_set_or_2 _ _))
 unfold Builtin.«frozenset.__or__»
 show wpAny _ _ (Builtin.Frozenset.slot1 "__or__" ⟨[.ref a,.ref b],[]⟩ >>= _) _ _ _
 unfold Builtin.Frozenset.slot1
 refine wpAny_bind (wpAny_bind (wpAny_pure (wpAny_pure ?_)))
 dsimp only
 refine wpAny_bind (wpAny_bind (zgC (zbr ha) (zgC (v:=.ref b) (zbr hb) ?_)))
 refine zaI (by decide) ?_
 refine wpAny_bind (wpAny_pure (wpAny_bind (wpAny_bind (ziz ha (by lia) fun h1 ks1 k1 hS1 m1 l1=>?_))))
 obtain ⟨ob,es,ep,t,Rb⟩:=hb.raw
 have hbl:b < s.heap.objs.size:=Heap.lt_size Rb.at'
 refine zcT (by simp; exact Ne.symm hab) ?_
 refine wpAny_bind (wpAny_pure ?_)
 have Rb1:RSet w h1 b ms ob es ep t:=⟨k1 _ _ Rb.at',Rb.ex,Rb.dat,Rb.prs,Rb.nd,Rb.ok,Rb.led⟩
 refine wpAny_bind (wpAny_holding ?_)
 unfold Builtin.Frozenset.updateFrom
 refine wpAny_bind (zgC (s:={ s with heap:=h1 }) (zbr Rb1.iset) (zcT rfl ?_))
 refine wpAny_bind (wpAny_pure ?_)
 unfold Builtin.Frozenset.merge
 refine wpAny_bind (wpAny_setEpoch_of (s:={ s with heap:=h1 }) Rb1.at' Rb1.dat Rb1.ok.fits ?_)
 refine zew (s:={ s with heap:=h1 }) (Nat.ne_of_gt hbl) hS1 Rb1 (by lia) (fun s' Q' ha' hq=>?_) fun h2 ks2 sb2 hS2 m2 l2=>?_
 ·unfold Builtin.Frozenset.unchanged
  exact wpAny_bind (wpAny_setEpoch_of ha' Rb1.dat Rb1.ok.fits (zaI (by simp) (wpAny_pure hq)))
 ·refine wpAny_pure (wpAny_pure ⟨_,rfl,fun z=>(nomatch z),h h2 ks2 (fun c o q=>?_) hS2 (fun x=>by rw [m2 x,m1 x]) (by omega)⟩)
  exact (sb2.2 c (Nat.ne_of_lt (Heap.lt_size q))).trans (k1 c o q)
end
end Wr
namespace Wr
open PySem SetTable PyProof.Rows
section
variable {prog:Program} {w:World} {A:Around} {E:Value → Shared → Prop} {s:Shared}
theorem zj6 (x:Value) {Q₁:Value → Shared → Prop} (h:Q₁ (.ref s.heap.objs.size) { s with heap:=s.heap.push (zaq (!byTx w)) }) :
  codeAny (model prog w) A (.call (.builtin "set.__new__") ⟨[.type "set", x],[]⟩) (wants Q₁ E) s:=by
 refine codeAny_call_builtin F.plain_set_new F.entry_set_new (wpAny_of_eq (F.newCall_set_1 x) ?_)
 unfold Builtin.«set.__new__» Builtin.Frozenset.newClass
 have hsub:=sub_set_self
 refine wpAny_bind (wpAny_bind (wpAny_of_eq (show isType (.type "set") = pure true from rfl) (zaI (by decide) (wpAny_bind (wpAny_of_eq hsub (zaI (by decide) (wpAny_pure ?_)))))))
 exact wpAny_bind (zg7 (wpAny_pure h))
theorem zgL {x:Value} {Q:Value → Shared → Prop} (hin:wpAny (model prog w) A.in1.in1 (Builtin.Frozenset.updateFrom "set.__init__" s.heap.objs.size x) (fun _ s'=>(∃ o,s'.heap.get? s.heap.objs.size = some o ∧ o.cls = .type "set") ∧ Q (.ref s.heap.objs.size) s') E { s with heap:=s.heap.push (zaq (!byTx w)) }) :
  wpAny (model prog w) A (call (.type "set") [x]) Q E s:=by
 obtain ⟨c,tl,hmro⟩:=F.called_set.mro
 have hmade:=F.called_set.made; have hsub:=F.called_set.sub
 refine wpAny_call (codeAny_of_tree ?_); show wpAny _ _ (callAny (.type "set") _) _ _ _
 refine wpAny_pure ⟨Code.quiet_builtin _ (by decide +kernel),codeAny_builtin F.entry_type_call ?_⟩; rw [Around.under_plain (weight_type_call_type "set" [x] []) rfl]
 have h1:=F.called_set.notType; have h2:=F.called_set.canCreate; have hct:=F.typeCall_set_1 x
 repeat (any_goals (first | assumption | wp_step))
 refine codeAny_mono (zj6 x (E:=E) (Q₁:=fun obj s₁=>obj = .ref s.heap.objs.size ∧ s₁ = { s with heap:=s.heap.push (zaq (!byTx w)) }) ⟨rfl,rfl⟩) fun r s₁ hr=>?_
 cases r with
 | error e=>exact hr
 | ok fl =>
  cases fl with
  | ret obj =>
   obtain ⟨rfl,rfl⟩:=hr
   have hS:(s.heap.push (zaq (!byTx w))).get? s.heap.objs.size = some (zaq (!byTx w)):=Heap.get?_push_size _ rfl
   have hT:Shared.TypeIs { s with heap:=s.heap.push (zaq (!byTx w)) } (.ref s.heap.objs.size) "set" := ⟨_,hS,rfl⟩
   have hli:=F.called_set.init.lookup; have hbi:=F.called_set.init.bind (.ref s.heap.objs.size)
   repeat (any_goals (first | assumption | wp_step))
   refine codeAny_mono (codeAny_call_builtin (R:=wants (fun r s₂=>r = .none ∧ (∃ o,s₂.heap.get? s.heap.objs.size = some o ∧ o.cls = .type "set") ∧ Q (.ref s.heap.objs.size) s₂) E) F.called_set.init.plain F.entry_set_init (check_set_init_1 hT ?_)) fun r₂ s₂ hr₂=>?_
   ·have R:RSet w (s.heap.push (zaq (!byTx w))) s.heap.objs.size [] (zaq (!byTx w)) #[] 0 (.fresh 0 0 (!byTx w)):=⟨hS,⟨rfl,rfl,rfl⟩,rfl,.nil,List.nodup_nil,zg5 _,fun z=>by show (!byTx w) = true; rw [z]; rfl⟩
    unfold Builtin.«set.__init__» noKeywords setUsed
    generalize hU:Builtin.Frozenset.updateFrom = U
    wp_walk using R.state (s:={ s with heap:=s.heap.push (zaq (!byTx w)) })
    subst hU
    exact wpAny_mono hin (fun _ s' hq=>wpAny_pure ⟨rfl,hq⟩) fun _ _ z=>z
   ·cases r₂ with
    | error e=>exact hr₂
    | ok fl₂ =>
     cases fl₂ with
     | ret r =>
      obtain ⟨rfl,hT2,hq⟩:=hr₂
      repeat (any_goals (first | assumption | wp_step))
     | _=>exact hr₂.elim
  | _=>exact hr.elim
end
end Wr
namespace Wr
open PySem SetTable PyProof.Rows
def EntI (e:DictEntry) (n:Int) : Prop:=e.hash = hashInt n ∧ ∃ t,e.key = .int n t
section
variable {prog:Program} {w:World} {A:Around} {E:Value → Shared → Prop} {s:Shared}
theorem set_of_dict {d:Addr} {od:Obj} {es:Array DictEntry} {ep:Nat} {ns:List Int} {Q:Value → Shared → Prop} (ho:s.heap.get? d = some od) (hc:od.cls = .type "dict") (hd:od.data = .dict es ep) (hm:(d == sysModules) = false) (p:Paired EntI es.toList ns) (hl:ns.length < 126)
  (h:∀ h' ms,(∀ b o,s.heap.get? b = some o → h'.get? b = some o) → ISet w h' s.heap.objs.size ms → (∀ x,x ∈ ms ↔ x ∈ ns) → ms.length ≤ ns.length → Q (.ref s.heap.objs.size) { s with heap:=h' }) :
  wpAny (model prog w) A (call (.type "set") [.ref d]) Q E s:=by
 have hlen:es.size = ns.length:=by rw [← Array.length_toList]; exact ze7 p
 have hdl:d < s.heap.objs.size:=Heap.lt_size ho
 refine zgL ?_
 have ho1:(s.heap.push (zaq (!byTx w))).get? d = some od:=Heap.get?_push_of_some _ ho
 unfold Builtin.Frozenset.updateFrom
 have hT:Shared.TypeIs { s with heap:=s.heap.push (zaq (!byTx w)) } (.ref d) "dict" := ⟨od,ho1,hc⟩
 refine wpAny_bind (zn3 hT F.sub_dict_set F.sub_dict_frozenset (zaI (by decide) ?_))
 refine wpAny_bind (wpAny_typeOf hT (zcT (by rfl) ?_))
 refine wpAny_bind (wpAny_rule (wpAny_bind (wpAny_pure (zaI (by rw [hm]; decide) ?_))))
 refine wpAny_bind (wpAny_dictEpoch (s:={ s with heap:=s.heap.push (zaq (!byTx w)) }) ho1 hd ?_)
 refine wpAny_bind (wpAny_dictEntries (s:={ s with heap:=s.heap.push (zaq (!byTx w)) }) ho1 hd ?_)
 refine wpAny_bind (zfH (s:={ s with heap:=s.heap.push (zaq (!byTx w)) }) (zeE s.heap) (by simp; lia) fun h1 ms1 o1 es1 ep1 t1 sb1 R1 pm1 _=>?_)
 have ms0:ms1 = []:=pm1.eq_nil
 have kp:∀ h',Heap.SameBut s.heap.objs.size (s.heap.push (zaq (!byTx w))) h' → ∀ b o,s.heap.get? b = some o → h'.get? b = some o:=fun h' sb b o e=>(sb.2 b (Nat.ne_of_lt (Heap.lt_size e))).trans (Heap.get?_push_of_some _ e)
 refine wpAny_bind (wpAny_dictEntries (s:={ s with heap:=h1 }) (kp h1 sb1 _ _ ho) hd ?_)
 refine wpAny_bind ?_
 rw [Std.Legacy.Range.forIn_eq_forIn_range']
 have hr:List.range' (Std.Legacy.Range.start [:es.size]) (Std.Legacy.Range.size [:es.size]) (Std.Legacy.Range.step [:es.size]) = List.range' 0 es.size 1:=by simp [Std.Legacy.Range.size]
 rw [hr]
 refine wpAny_forIn_list _ (fun rest _ s'=>∃ (i:Nat) (h':Heap) (ms:List Int),rest = List.range' i (es.size - i) 1 ∧ i ≤ es.size ∧ s' = { s with heap:=h' } ∧ Heap.SameBut s.heap.objs.size (s.heap.push (zaq (!byTx w))) h' ∧ ISet w h' s.heap.objs.size ms ∧ (∀ x,x ∈ ms ↔ x ∈ ns.take i) ∧ ms.length ≤ i) _ ?_ ?_ _ PUnit.unit
  ⟨0,h1,[],rfl,Nat.zero_le _,rfl,sb1,ms0 ▸ R1.iset,fun x=>by simp,Nat.le_refl _⟩
 ·rintro x rest b s' ⟨i,h',ms,hrest,hi,rfl,sb,hS,mem,len⟩
  have hlt:i < es.size:=by
   rcases Nat.lt_or_ge i es.size with z | z
   ·exact z
   ·rw [show es.size - i = 0 by lia] at hrest; cases hrest
  rw [show es.size - i = (es.size - (i + 1)) + 1 by lia,List.range'_succ] at hrest
  injection hrest with e1 e2
  subst e1
  have hn:x < ns.length:=by lia
  obtain ⟨q1,tk,q2⟩ : EntI es[x] ns[x]:=pairAt p x (by simpa using hlt) hn
  refine wpAny_bind (wpAny_dictEntries (s:={ s with heap:=h' }) (kp h' sb _ _ ho) hd ?_)
  rw [Array.getElem?_eq_getElem hlt]
  dsimp only
  rw [q1,q2]
  refine wpAny_bind (wpAny_holding (zhc (s:={ s with heap:=h' }) hS (by lia) fun h2 ms2 bb sb2 hS2 alt=>?_))
  refine wpAny_bind (wpAny_dictEpoch (s:={ s with heap:=h2 }) (kp h2 (sb.trans sb2) _ _ ho) hd ?_)
  refine zaI (by simp) (wpAny_pure ?_)
  refine ⟨x + 1,h2,ms2,e2,hlt,rfl,sb.trans sb2,hS2,fun y=>?_,?_⟩
  ·rw [List.take_add_one,List.getElem?_eq_getElem hn,List.mem_append]
   have:(some ns[x]).toList = [ns[x]]:=rfl
   rw [this,List.mem_singleton,← mem y]
   rcases alt with ⟨i1,rfl⟩ | ⟨i1,i2⟩
   ·constructor
    ·exact .inl
    ·rintro (z | z)
     ·exact z
     ·rw [z]; exact i1
   ·rw [i2.mem_iff,List.mem_cons]
    constructor
    ·rintro (z | z)
     ·exact .inr z
     ·exact .inl z
    ·rintro (z | z)
     ·exact .inr z
     ·exact .inl z
  ·rcases alt with ⟨_,rfl⟩ | ⟨_,i2⟩
   ·lia
   ·rw [i2.length_eq,List.length_cons]; lia
 ·rintro b s' ⟨i,h',ms,hrest,hi,rfl,sb,hS,mem,len⟩
  have hei:i = es.size:=by
   rcases Nat.lt_or_ge i es.size with z | z
   ·rw [show es.size - i = (es.size - (i + 1)) + 1 by lia,List.range'_succ] at hrest; cases hrest
   ·lia
  obtain ⟨oS,eS,pS,tS,RS⟩:=hS.raw
  refine wpAny_pure ⟨⟨oS,RS.at',RS.ex.1⟩,h h' ms (kp h' sb) hS (fun x=>?_) (by lia)⟩
  rw [mem x,hei,hlen,List.take_length]
where
 pairAt {α β:Type} {R:α → β → Prop} : ∀ {xs:List α} {ys:List β},Paired R xs ys → ∀ (i:Nat) (hx:i < xs.length) (hy:i < ys.length),R xs[i] ys[i]
  | _,_,.cons r _,0,_,_=>r
  | _,_,.cons _ t,i + 1,hx,hy=>pairAt t i (by simpa using hx) (by simpa using hy)
end
end Wr
namespace Wr
open PySem PyProof.Rows
section
variable {prog:Program} {w:World} {A:Around} {E:Value → Shared → Prop} {s:Shared}
theorem zf0:typeLookup (.type "list") "keys" = pure none:=am_miss_of_fast (by kernel_rfl)
theorem zd1:typeLookup (.type "list") "__getattr__" = pure none:=am_miss_of_fast (by kernel_rfl)
theorem zhB (l:Addr) (xs:Array Value) (n:Nat) (u:Tok) : Meets (Builtin.«object.__getattribute__» ⟨[.ref l,.str "keys" u],[]⟩) (fun A R s=>s.heap.get? l = some (seqObj "list" xs n) ∧ raisesAttr (.ref l) "keys" A R s) :=
 Meets.of_wp fun prog w A R s ⟨hl,hs⟩=>by
  obtain ⟨hp,g,d,tk,os⟩:=s
  have hT:(⟨hp,g,d,tk,os⟩ : Shared).TypeIs (.ref l) "list" := ⟨_,hl,rfl⟩
  have hm:=zf0
  unfold Builtin.«object.__getattribute__»
  repeat (any_goals (first | assumption | wp_step))
  exact wpAny_raiseAttrError hs.1 hs.2 (attrMsg_fits (by decide +kernel) (by size_fits))
theorem zmD {l:Addr} {xs:Array Value} {n:Nat} {Q:Option Value → Shared → Prop} (hA:A.handled = none) (hl:s.heap.get? l = some (seqObj "list" xs n))
  (h:∀ h' tk,(∀ b o,s.heap.get? b = some o → h'.get? b = some o) → Q none { s with heap:=h',toks:=tk }) : wpAny (model prog w) A (getAttr? (.ref l) "keys") Q E s:=by
 obtain ⟨hp,g,d,tk,os⟩:=s
 have hT:(⟨hp,g,d,tk + 1,os⟩ : Shared).TypeIs (.ref l) "list" := ⟨_,hl,rfl⟩
 have f1:=sub_AttributeError
 have f3:=F.slot_list_getattribute.lookup
 have f4:=F.slot_list_getattribute.bind (.ref l)
 have f5:=zd1
 unfold getAttr? getAttrBy? getAttrBy
 repeat (any_goals (first | assumption | ((with_reducible show wpAny _ _ (call (Value.builtin "list.__getattribute__") _ _) _ _ _); refine call_meets F.slot_list_getattribute hT F.entry_list_ga (F.args_list_getattribute_2 _ _) (zhB l xs n _) ⟨hl,by simpa using hA,fun h' tk' e hx=>?_⟩) | wp_step))
 obtain ⟨t',u',he⟩:=id hx.there
 show wpAny _ _ (getattributeRaised _ _ _ _ _ _ _) _ _ _
 have hE:(⟨h',g,d,tk',os⟩ : Shared).TypeIs (.ref e) "AttributeError" := ⟨_,he,rfl⟩
 unfold getattributeRaised
 repeat (any_goals (first | assumption | wp_step))
 all_goals first | exact h _ _ hx.keeps | skip
end
end Wr
namespace Wr
open PySem PyProof.Rows
theorem zfW:entryFor table "dict.update.loop" = some Builtin.«dict.update.loop» := entryFor_of_tree (by kernel_rfl)
theorem zcV:plainId "dict.update.loop" = true:=by decide +kernel
def PairAt (h:Heap) (v k x:Value) : Prop:=∃ t o n,v = .ref t ∧ h.get? t = some o ∧ o.cls = .type "tuple" ∧ o.data = .seq #[k,x] n
theorem PairAt.keeps {h h':Heap} {v k x:Value} (p:PairAt h v k x) (kp:∀ b o,h.get? b = some o → h'.get? b = some o) : PairAt h' v k x:=let ⟨t,o,n,e,q,r⟩:=p; ⟨t,o,n,e,kp _ _ q,r⟩
section
variable {prog:Program} {w:World} {A:Around} {E:Value → Shared → Prop} {s:Shared}
theorem zjR {D it l:Addr} {items:Array Value} {ks vs:Nat → Value} {J:Nat → Heap → Prop} {R:Result → Shared → Prop} (hh:A.handled = none) (hDi:D ≠ it) (hDl:D ≠ l) (hli:l ≠ it)
  (stab:∀ i h h',(∀ o,h.get? D = some o → h'.get? D = some o) → (∀ i,i < items.size → ∀ t:Addr,items[i]? = some (Value.ref t) → PairAt h (.ref t) (ks i) (vs i)) → (∀ b o,b ≠ it → h.get? b = some o → h'.get? b = some o) → J i h → J i h')
  (step:∀ (i:Nat) (s':Shared) (Q':Unit → Shared → Prop) (E':Value → Shared → Prop),i < items.size → J i s'.heap → (∀ h' tk,Heap.SameBut D s'.heap h' → J (i + 1) h' → Q' () { s' with heap:=h',toks:=tk }) → wpAny (model prog w) A.in1 (dictSet D (ks i) (vs i)) Q' E' s')
  (hDp:∀ (i:Nat) (t:Addr),items[i]? = some (Value.ref t) → t ≠ D ∧ t ≠ it) :
  ∀ (k i:Nat) (s:Shared),items.size - i = k → i ≤ items.size → s.heap.IsListIter it l i → s.heap.IsList l items → (∀ i,i < items.size → ∃ t,items[i]? = some (.ref t) ∧ PairAt s.heap (.ref t) (ks i) (vs i)) → J i s.heap →
   (∀ h' tk,(∀ b o,b ≠ it → b ≠ D → s.heap.get? b = some o → h'.get? b = some o) → J items.size h' → R (.ok (.ret .none)) { s with heap:=h',toks:=tk }) →
   codeAny (model prog w) A (.builtin "dict.update.loop" ⟨[.ref D,.ref it,rawInt i,.none],[]⟩) R s:=by
 intro k
 induction k with
 | zero =>
  intro i s hk hi hit hl hp hJ hR
  have hin:i = items.size:=by lia
  subst hin
  refine codeAny_builtin zfW ?_; rw [Around.under_plainId zcV _]
  show wpAny _ A.in1 (pyNext (.ref it) >>= _) _ _ s
  refine wpAny_bind ((Walks.list (A:=A.in1) (by simpa using hh) it l hli items).done s _ _ ⟨hit,hl⟩ fun h' tk hk'=>?_)
  refine wpAny_bind (wpAny_pure (wpAny_pure (hR h' tk (fun b o h1 _ q=>hk' b o (by simpa using h1) q) ?_)))
  exact stab _ _ _ (fun o q=>hk' _ _ (by simpa using hDi) q) (fun i hi t ht=>let ⟨t',h1,h2⟩:=hp i hi; by rw [ht] at h1; cases h1; exact h2) (fun b o h1 q=>hk' b o (by simpa using h1) q) hJ
 | succ k ih =>
  intro i s hk hi hit hl hp hJ hR
  have hlt:i < items.size:=by lia
  refine codeAny_builtin zfW ?_; rw [Around.under_plainId zcV _]
  show wpAny _ A.in1 (pyNext (.ref it) >>= _) _ _ s
  refine wpAny_bind ((Walks.list (A:=A.in1) (by simpa using hh) it l hli items).item i s _ _ hlt ⟨hit,hl⟩ fun v h' tk hv st' hk'=>?_)
  obtain ⟨hit',hl'⟩:=st'
  obtain ⟨t,e1,pr⟩:=hp i hlt
  rw [hv] at e1
  cases e1
  have kk:∀ b o,b ≠ it → s.heap.get? b = some o → h'.get? b = some o:=fun b o h1 q=>hk' b o (by simpa using h1) q
  obtain ⟨t2,ot,nt,e2,q1,q2,q3⟩:=pr
  cases e2
  have q1':h'.get? t = some ot:=kk _ _ (hDp i t hv).2 q1
  have pr':∀ j,j < items.size → ∃ t,items[j]? = some (.ref t) ∧ PairAt h' (.ref t) (ks j) (vs j):=fun j hj=>by
   obtain ⟨u,u1,u2,ou,nu,u3,u4,u5⟩:=hp j hj
   cases u3
   exact ⟨u,u1,u,ou,nu,rfl,kk _ _ (hDp j u u1).2 u4,u5⟩
  have J':J i h':=stab _ _ _ (fun o q=>kk _ _ hDi q) (fun i hi t ht=>let ⟨t',h1,h2⟩:=hp i hi; by rw [ht] at h1; cases h1; exact h2) kk hJ
  have hT:({ s with heap:=h',toks:=tk } : Shared).TypeIs (.ref t) "tuple" := ⟨ot,q1',q2⟩
  refine wpAny_bind (wpAny_holding (wpAny_bind (wpAny_tryCatch ?_)))
  unfold Builtin.Dict.pairItems
  refine wpAny_bind (wpAny_typeOf hT ?_)
  rw [if_pos (by decide)]
  unfold seqItems?
  refine wpAny_bind (wpAny_bind (wpAny_load q1' ?_))
  rw [q3]
  refine wpAny_pure (wpAny_pure ?_)
  show wpAny _ A.in1 (holding [ks i,vs i] (dictSet D (ks i) (vs i))) _ _ _
  refine wpAny_holding (step i _ _ _ hlt J' fun h2 tk2 sb2 J2=>?_)
  refine wpAny_pure ⟨plainId_quiet zcV _,?_⟩
  have eI:rawInt ((i:Int) + 1) = rawInt ((i + 1:Nat) : Int):=by congr 1
  show codeAny _ A (.builtin "dict.update.loop" ⟨[.ref D,.ref it,rawInt ((i:Int) + 1),.none],[]⟩) _ _
  rw [eI]
  have k2:∀ b o,b ≠ D → h'.get? b = some o → h2.get? b = some o:=fun b o h1 q=>(sb2.2 b h1).trans q
  refine ih (i + 1) { s with heap:=h2,toks:=tk2 } (by lia) hlt (hit'.at fun o q=>k2 _ _ (Ne.symm hDi) q) (hl'.at fun o q=>k2 _ _ (Ne.symm hDl) q) (fun j hj=>?_) J2 (fun h3 tk3 k3 J3=>hR h3 tk3 (fun b o n1 n2 q=>k3 b o n1 n2 (k2 b o n2 (kk b o n1 q))) J3)
  obtain ⟨u,u1,u2,ou,nu,u3,u4,u5⟩:=pr' j hj
  cases u3
  exact ⟨u,u1,u,ou,nu,rfl,k2 _ _ (hDp j u u1).1 u4,u5⟩
theorem dict_of_pairs {l:Addr} {items:Array Value} {n:Nat} {ks vs:Nat → Value} {J:Nat → Heap → Prop} {Q:Value → Shared → Prop} (hh:A.handled = none) (hl:s.heap.get? l = some (seqObj "list" items n))
  (hp:∀ i,i < items.size → ∃ t,items[i]? = some (.ref t) ∧ PairAt s.heap (.ref t) (ks i) (vs i))
  (stab:∀ i h h',(∀ o,h.get? s.heap.objs.size = some o → h'.get? s.heap.objs.size = some o) → (∀ b o,b < s.heap.objs.size → h.get? b = some o → h'.get? b = some o) → J i h → J i h')
  (j0:J 0 (s.heap.push { cls:=.type "dict", data:=.dict #[] }))
  (step:∀ (A':Around) (i:Nat) (s':Shared) (Q':Unit → Shared → Prop) (E':Value → Shared → Prop),A' = A.in1.in1 → i < items.size → J i s'.heap → (∀ b o,s.heap.get? b = some o → s'.heap.get? b = some o) →
   (∀ h' tk,Heap.SameBut s.heap.objs.size s'.heap h' → J (i + 1) h' → Q' () { s' with heap:=h',toks:=tk }) → wpAny (model prog w) A' (dictSet s.heap.objs.size (ks i) (vs i)) Q' E' s')
  (h:∀ h' tk,(∀ b o,s.heap.get? b = some o → h'.get? b = some o) → J items.size h' → Q (.ref s.heap.objs.size) { s with heap:=h',toks:=tk }) :
  wpAny (model prog w) A (call (.type "dict") [.ref l]) Q E s:=by
 have hll:l < s.heap.objs.size:=Heap.lt_size hl
 refine callType_codes (Q₁:=fun obj s₁=>obj = .ref s.heap.objs.size ∧ s₁ = { s with heap:=s.heap.push { cls:=.type "dict", data:=.dict #[] } }) F.kt_called_dict (F.kt_typeCall_dict_1 _) F.entry_dict_init (kt_code_dict_new _ ⟨rfl,rfl⟩) ?_
 rintro obj s₁ ⟨rfl,rfl⟩
 have hD:(s.heap.push { cls:=.type "dict", data:=.dict #[] }).get? s.heap.objs.size = some { cls:=.type "dict", data:=.dict #[] }:=Heap.get?_push_size _ rfl
 have hl1:(s.heap.push { cls:=.type "dict", data:=.dict #[] }).get? l = some (seqObj "list" items n):=Heap.get?_push_of_some _ hl
 have hT:Shared.TypeIs { s with heap:=s.heap.push { cls:=.type "dict", data:=.dict #[] } } (.ref s.heap.objs.size) "dict" := ⟨_,hD,rfl⟩
 refine ⟨hT,F.args_dict_init_2 _ _,?_⟩
 unfold Builtin.«dict.__init__»
 refine wpAny_bind ?_; unfold Builtin.Dict.selfAndRest
 refine wpAny_bind (wpAny_notOrdered_dict hT (wpAny_pure ?_))
 show wpAny _ _ (Builtin.Dict.updateFrom "dict.__init__" s.heap.objs.size (.ref l) [] .none) _ _ _
 unfold Builtin.Dict.updateFrom
 refine wpAny_bind (wpAny_typeOf (T := "list") ⟨_,hl1,rfl⟩ ?_)
 rw [if_pos (by decide)]
 refine wpAny_bind (zmD (s:={ s with heap:=s.heap.push { cls:=.type "dict", data:=.dict #[] } }) (by simpa using hh) hl1 fun h1 tk1 k1=>?_)
 rw [show (none:Option Value).isNone = true from rfl,if_pos rfl]; refine wpAny_bind (wpAny_rule ?_)
 have hl2:h1.get? l = some (seqObj "list" items n):=k1 _ _ hl1
 have hL:h1.IsList l items:=⟨_,hl2,rfl,n,rfl⟩
 refine wpAny_bind (wpAny_pyIter_list (s:={ s with heap:=h1,toks:=tk1 }) hL ?_)
 have hD1:h1.get? s.heap.objs.size = some { cls:=.type "dict", data:=.dict #[] }:=k1 _ _ hD
 have hDlt:s.heap.objs.size < h1.objs.size:=Heap.lt_size hD1
 have kA:∀ b o,s.heap.get? b = some o → h1.get? b = some o:=fun b o q=>k1 _ _ (Heap.get?_push_of_some _ q)
 refine wpAny_pure ⟨plainId_quiet zcV _,?_⟩
 have ne1:∀ b,b < s.heap.objs.size → b ≠ h1.objs.size:=fun b hb=>Nat.ne_of_lt (Nat.lt_trans hb hDlt)
 refine zjR (J:=fun i h=>J i h ∧ ∀ b o,s.heap.get? b = some o → h.get? b = some o) (ks:=ks) (vs:=vs) (l:=l) (items:=items) (by simpa using hh) (Nat.ne_of_lt hDlt) (Nat.ne_of_gt hll) (ne1 l hll)
  (fun i h h' a1 a2 a3 ⟨j1,j2⟩=>⟨stab i h h' a1 (fun b o hb q=>a3 b o (ne1 b hb) q) j1,fun b o q=>a3 b o (ne1 b (Heap.lt_size q)) (j2 b o q)⟩)
  (fun i s' Q' E' hi ⟨j1,j2⟩ hq=>step _ i s' Q' E' rfl hi j1 j2 fun h' tk sb j'=>hq h' tk sb ⟨j',fun b o q=>(sb.2 b (Nat.ne_of_lt (Heap.lt_size q))).trans (j2 b o q)⟩)
  (fun i t ht=>by
   have hi:i < items.size:=by
    rcases Nat.lt_or_ge i items.size with z | z
    ·exact z
    ·rw [Array.getElem?_eq_none z] at ht; cases ht
   obtain ⟨u,u1,u2,ou,nu,u3,u4,_⟩:=hp i hi
   cases u3
   rw [u1] at ht
   cases ht
   exact ⟨Nat.ne_of_lt (Heap.lt_size u4),ne1 _ (Heap.lt_size u4)⟩)
  items.size 0 _ (by lia) (Nat.zero_le _) ⟨_,Heap.get?_push_size _ rfl,rfl,rfl⟩ (hL.push _) (fun i hi=>let ⟨t,h1',h2'⟩:=hp i hi; ⟨t,h1',h2'.keeps fun b o q=>Heap.get?_push_of_some _ (kA b o q)⟩)
  ⟨stab _ _ _ (fun o q=>Heap.get?_push_of_some _ (k1 _ _ q)) (fun b o _ q=>Heap.get?_push_of_some _ (k1 _ _ q)) j0,fun b o q=>Heap.get?_push_of_some _ (kA b o q)⟩
  fun h2 tk2 k2 ⟨j1,j2⟩=>?_
 exact ⟨rfl,h h2 tk2 j2 j1⟩
end
end Wr
namespace L2
open PySem PySem.Spec PyProof.Rows
def setO (w:World) (a:Addr) (ns:List Int) : HO:=.ext fun h=>Wr.ISet w h a ns
theorem zjz {P:Program} {w:World} {H:Hp} {h:Heap} {a:Addr} {ns:List Int} (x:Wr.ISet w h a ns) : ObjOk P w H h a (setO w a ns):=by
 refine zaa ?_; intro G_; obtain ⟨o,es,ep,t,R⟩:=x.raw
 exact ⟨x,⟨o,R.at'⟩,fun h1 h2 y k=>y.keeps k⟩
theorem zc0 {w:World} {h:Heap} {a:Addr} {ns:List Int} (x:Wr.ISet w h a ns) : ns.Nodup:=let ⟨_,_,_,_,_,_,_,_,nd,_⟩:=x.ex; nd
section
variable {X:Cx} {pins:List (Addr × Obj)} {σ:St} {H:Hp} {s:Shared}
theorem Inv.setAt {a:Addr} {ns:List Int} (I:Inv X pins σ H s) (h:H a = some (setO X.w a ns)) : Wr.ISet X.w s.heap a ns:=(I.hok a _ h).1
theorem zgY (I:Inv X pins σ H s) (hc:X.calm = true) : X.A.handled = none:=I.ok.hd hc
theorem zmU {P:Program} {w:World} {kvs:List (Key × V)} {ns:List Int} (hk:kvs.map (·.1) = ns.map Sum.inl) {vs:List (Key × Value)} (r:KV kvs vs) {es:List DictEntry} (ps:Pairs (zaC P w) es vs)
  (ks:∀ e ∈ es,∃ k,(zaC P w).is k e.key = true ∧ e.hash = (zaC P w).hash k) : Paired Wr.EntI es ns:=by
 induction ps generalizing kvs ns with
 | nil =>
  cases r
  cases ns with
  | nil=>exact .nil
  | cons n ns=>simp at hk
 | @cons e kv es vs' h1 h2 _ ih =>
  cases r with
  | cons rp rt =>
   cases ns with
   | nil=>simp at hk
   | cons n ns =>
    rw [List.map_cons,List.map_cons] at hk
    injection hk with k1 k2
    refine .cons ?_ (ih k2 rt fun e he=>ks e (List.mem_cons_of_mem _ he))
    have e1:kv.1 = Sum.inl n:=rp.1.symm.trans k1
    rw [e1] at h1
    have h1':zgn (Sum.inl n) e.key = true:=h1
    rcases zay h1' with ⟨i,t,q1,q2⟩ | ⟨x,t,q1,_⟩
    ·cases q1
     refine zaa ?_; intro G_; obtain ⟨k',m1,m2⟩:=ks e List.mem_cons_self
     have:k' = Sum.inl n:=(zaC P w).inj _ _ _ m1 h1
     subst this
     exact ⟨m2,t,q2⟩
    ·cases q1
def znk (w:World) : List V → Hp → VK → Prop:=fun xs H Q=>∃ (d:Addr) (kvs:List (Key × V)) (ns:List Int),xs = [.ref d] ∧ H d = some (.dK kvs) ∧ kvs.map (·.1) = ns.map Sum.inl ∧ ns.length < 126 ∧ ∀ (p:Addr) (ms:List Int),H p = none → (∀ x,x ∈ ms ↔ x ∈ ns) → ms.Nodup → ms.length ≤ ns.length → Q (.ref p) (upd H p (setO w p ms))
theorem zeX:zcZ X (.type "set") (znk X.w):=by
 rintro pins s σ H xs us Q I r ⟨d,kvs,ns,e,hd,hk,hl,q⟩
 subst e
 refine zaa ?_; intro G_; obtain ⟨u,rfl,ru⟩:=Vals.one r
 cases ru
 refine zaa ?_; intro G_; obtain ⟨_,y,vs,rel,od,es,ep,e1,ex,e2,keys,prs,nd⟩:=zoF I.hok hd
 refine Wr.set_of_dict e1 ex.1 e2 y (zmU hk rel prs fun e he=>keys e (by simpa using he)) hl fun h' ms k hS mem len=>?_
 exact ⟨.ref s.heap.objs.size,_,I.laid (a:=s.heap.objs.size) (o:=setO X.w s.heap.objs.size ms) (t':=s.toks) (fun b u z=>k b u z) (Nat.le_refl _) (zjz hS),rfl,q _ ms (I.hok.fresh (Nat.le_refl _)) mem (zc0 hS) len⟩
def rBor (w:World) : R2:=fun x y H Q=>∃ (a b:Addr) (ns ms:List Int),x = .ref a ∧ y = .ref b ∧ a ≠ b ∧ H a = some (setO w a ns) ∧ H b = some (setO w b ms) ∧ ns.length + ms.length < 127 ∧
 ∀ (p:Addr) (ks:List Int),H p = none → (∀ x,x ∈ ks ↔ x ∈ ns ∨ x ∈ ms) → ks.Nodup → ks.length ≤ ns.length + ms.length → Q (.ref p) (upd H p (setO w p ks))
theorem znE:OpR X (binaryOp .BitOr) (rBor X.w):=by
 rintro pins s σ H x y v u Q I rx ry ⟨a,b,ns,ms,e1,e2,hab,ha,hb,hl,q⟩
 subst e1 e2
 cases rx
 cases ry
 refine Wr.iset_or hab (I.setAt ha) (I.setAt hb) hl fun h' ks k hS mem len=>?_
 exact ⟨.ref s.heap.objs.size,_,I.laid (a:=s.heap.objs.size) (o:=setO X.w s.heap.objs.size ks) (t':=s.toks) (fun b u z=>k b u z) (Nat.le_refl _) (zjz hS),rfl,q _ ks (I.hok.fresh (Nat.le_refl _)) mem (zc0 hS) len⟩
def zlm (w:World) : List V → Hp → VK → Prop:=fun xs H Q=>∃ (a:Addr) (ns:List Int),xs = [.ref a] ∧ H a = some (setO w a ns) ∧ ns.length < 64 ∧ ∀ (D:Addr) (ns':List Int),H D = none → ns'.Perm ns → Wr.Inc ns' → Q (.ref D) (upd H D (.lst (ns'.map V.int)))
theorem zmW {l:List Int} (h:l.Pairwise (· ≤ ·)) (nd:l.Nodup) : Wr.Inc l:=by
 induction l with
 | nil=>exact .nil
 | cons x l ih =>
  obtain ⟨h1,h2⟩:=List.pairwise_cons.mp h
  obtain ⟨n1,n2⟩:=List.nodup_cons.mp nd
  refine List.pairwise_cons.mpr ⟨fun y hy=>?_,ih h2 n2⟩
  have a:=h1 y hy
  have b:x ≠ y:=fun e=>n1 (e ▸ hy)
  lia
theorem zfb (hc:X.calm = true) : zcZ X (.builtin "sorted") (zlm X.w):=by
 rintro pins s σ H xs us Q I r ⟨a,ns,e,ha,h64,q⟩
 subst e
 refine zaa ?_; intro G_; obtain ⟨u,rfl,ru⟩:=Vals.one r
 cases ru
 have hS:=I.setAt ha
 refine Wr.iset_sorted (zgY I hc) hS h64 fun D h' vs c ns' tk k hD hg hints pm pw=>?_
 have hl:ns'.length < 64:=by rw [pm.length_eq]; exact h64
 refine ⟨.ref D,_,I.laid (a:=D) (o:=.lst (ns'.map V.int)) (t':=tk) (fun b u z=>k b u z) hD ⟨?_,vs,c,zdR hints,hg⟩,rfl,q D ns' (I.hok.fresh hD) pm (zmW pw (pm.nodup_iff.mpr (zc0 hS)))⟩
 rw [List.length_map]
 exact zcm hl
def zk9:List V → Hp → VK → Prop:=fun xs H Q=>∃ (l:Addr) (ys:List V) (ps:List (Int × V)),xs = [.ref l] ∧ H l = some (.lst ys) ∧ Paired (fun y (p:Int × V)=>∃ t,y = .ref t ∧ H t = some (.tup [.int p.1,p.2])) ys ps ∧ (ps.map (·.1)).Nodup ∧ ps.length ≤ 1000 ∧
 ∀ p:Addr,H p = none → Q (.ref p) (upd H p (.dK (ps.map fun q=>(Sum.inl q.1,q.2))))
theorem stored_new {κ:Type} [DecidableEq κ] {kvs:List (κ × Value)} {k:κ} {v:Value} (h:k ∉ kvs.map (·.1)) : stored kvs k v = kvs ++ [(k,v)]:=by
 unfold stored
 rw [if_neg]
 intro z
 refine zaa ?_; intro G_; obtain ⟨kv,h1,h2⟩:=List.any_eq_true.mp z
 exact h (List.mem_map.mpr ⟨kv,h1,of_decide_eq_true h2⟩)
theorem zeh (hc:X.calm = true) : zcZ X (.type "dict") zk9:=by
 rintro pins s σ H xs us Q I r ⟨l,ys,ps,e,hl,hp,nd,hz,q⟩
 subst e
 refine zaa ?_; intro G_; obtain ⟨u,rfl,ru⟩:=Vals.one r
 cases ru
 obtain ⟨_,its,n,rv,hg⟩ : ObjOk X.prog X.w H s.heap l (.lst ys):=I.hok l _ hl
 have lens:its.length = ps.length:=by rw [← rv.length]; exact Paired.length hp
 have pr:∀ i,i < ps.length → ∃ t tk u,its[i]? = some (.ref t) ∧ Wr.PairAt s.heap (.ref t) (.int (ps.getD i (0,.non)).1 tk) u ∧ RelV (ps.getD i (0,.non)).2 u:=fun i hi=>by
  obtain ⟨y,hy⟩ : ∃ y,ys[i]? = some y:=⟨ys[i]'(by rw [Paired.length hp]; exact hi),by simp [Paired.length hp,hi]⟩
  obtain ⟨pp,hpp,t,rfl,ht⟩:=zaH hp hy
  have eg:ps.getD i (0,.non) = pp:=by simp [hpp]
  obtain ⟨u,hu,ru⟩:=rv.get hy
  cases ru
  obtain ⟨_,tv,rt,⟨ot,oe,oc,on,od⟩⟩ : ObjOk X.prog X.w H s.heap t (.tup [.int pp.1,pp.2]):=I.hok t _ ht
  obtain ⟨a,b,rfl,ra,rb⟩:=vals2 rt
  obtain ⟨tk,rfl⟩:=ra
  rw [eg]
  exact ⟨t,tk,b,hu,⟨t,ot,on,rfl,oe,oc,od⟩,rb⟩
 obtain ⟨F,hF⟩ : ∃ F:Nat → Tok × Value,∀ i,i < ps.length → ∃ t,its[i]? = some (.ref t) ∧ Wr.PairAt s.heap (.ref t) (.int (ps.getD i (0,.non)).1 (F i).1) (F i).2 ∧ RelV (ps.getD i (0,.non)).2 (F i).2 :=
  Classical.axiomOfChoice (r:=fun i (p:Tok × Value)=>i < ps.length → ∃ t,its[i]? = some (.ref t) ∧ Wr.PairAt s.heap (.ref t) (.int (ps.getD i (0,.non)).1 p.1) p.2 ∧ RelV (ps.getD i (0,.non)).2 p.2) fun i=>by
   by_cases hi:i < ps.length
   ·refine zaa ?_; intro G_; obtain ⟨t,tk,u,h1,h2,h3⟩:=pr i hi
    exact ⟨(tk,u),fun _=>⟨t,h1,h2,h3⟩⟩
   ·exact ⟨(0,.none),fun z=>absurd z hi⟩
 have hsz:its.toArray.size = ps.length:=by rw [List.size_toArray]; exact lens
 refine Wr.dict_of_pairs (items:=its.toArray) (ks:=fun i=>.int (ps.getD i (0,.non)).1 (F i).1) (vs:=fun i=>(F i).2) (zgY I hc) hg (fun i hi=>?_)
  (J:=fun i h=>∃ vs,KV ((ps.take i).map fun q=>((Sum.inl q.1:Key),q.2)) vs ∧ h.DictOf (zaC X.prog X.w) s.heap.objs.size vs) ?_ ?_ ?_ ?_
 ·refine zaa ?_; intro G_; obtain ⟨t,h1,h2,_⟩:=hF i (by lia)
  exact ⟨t,by simpa using h1,h2⟩
 ·intro i h h' k _ h_
  refine zaa ?_; intro G_; obtain ⟨vs,r1,o,es,ep,e1,r2⟩:=h_
  exact ⟨vs,r1,o,es,ep,k _ e1,r2⟩
 ·exact ⟨[],.nil,Heap.DictOf.new s.heap⟩
 ·rintro A' i s' Q' E' _ hi ⟨vs,r1,dd⟩ _ hq
  have hi':i < ps.length:=by lia
  refine zaa ?_; intro G_; obtain ⟨t,_,_,rl⟩:=hF i hi'
  have hlv:vs.length = i:=by
   rw [← Paired.length r1,List.length_map,List.length_take]; lia
  refine wpAny_dictSet_pairs (knd:=zaC X.prog X.w) (k:=Sum.inl (ps.getD i (0,.non)).1) (zf7 _ (F i).1) dd (fun h' d' sb=>hq h' _ sb ?_) (by rw [hlv,sizeLine_eq]; lia)
  have nk:(Sum.inl (ps.getD i (0,.non)).1:Key) ∉ vs.map (·.1):=by
   have e1:vs.map (·.1) = (ps.take i).map fun q=>(Sum.inl q.1:Key):=by
    have all:∀ {a:List (Key × V)} {b:List (Key × Value)},KV a b → b.map (·.1) = a.map (·.1):=by
     intro a b r
     induction r with
     | nil=>rfl
     | cons h _ ih=>rw [List.map_cons,List.map_cons,h.1,ih]
    rw [all r1,List.map_map]
    rfl
   rw [e1]
   intro z
   refine zaa ?_; intro G_; obtain ⟨q,hq1,hq2⟩:=List.mem_map.mp z
   have hq3:q.1 = (ps.getD i (0,.non)).1:=Sum.inl.inj hq2
   refine zaa ?_; intro G_; obtain ⟨j,hj,rfl⟩:=List.mem_iff_getElem.mp hq1
   rw [List.length_take] at hj
   rw [List.getElem_take] at hq3
   have:=(List.nodup_iff_pairwise_ne.mp nd)
   have hji:=List.pairwise_iff_getElem.mp this j i (by rw [List.length_map]; lia) (by rw [List.length_map]; exact hi') (by lia)
   apply hji
   rw [List.getElem_map,List.getElem_map,hq3]
   simp [hi']
  rw [stored_new nk] at d'
  refine ⟨_,?_,d'⟩
  rw [List.take_add_one,List.getElem?_eq_getElem hi',List.map_append]
  refine zak (R:=fun (p:Key × V) (q:Key × Value)=>p.1 = q.1 ∧ RelV p.2 q.2) ⟨?_,?_⟩ r1
  ·simp [hi']
  ·have e2:ps.getD i (0,.non) = ps[i]:=by simp [hi']
   rw [e2] at rl
   exact rl
 ·intro h' tk k h_
  refine zaa ?_; intro G_; obtain ⟨vs,r1,dd⟩:=h_
  rw [hsz,List.take_length] at r1
  refine ⟨.ref s.heap.objs.size,_,I.laid (a:=s.heap.objs.size) (o:=.dK (ps.map fun q=>(Sum.inl q.1,q.2))) (t':=tk) (fun b u z=>k b u z) (Nat.le_refl _) ⟨?_,?_,vs,r1,dd⟩,rfl,q _ (I.hok.fresh (Nat.le_refl _))⟩
  ·rw [List.length_map]
   exact Nat.le_of_lt (zal hz)
  ·exact beq_eq_false_iff_ne.mpr (Nat.ne_of_gt I.big)
end
end L2
namespace L2
open PySem PySem.Spec PyProof.Rows
theorem nn {a b:Nat} (h:a ≠ b) : @Ne Addr a b:=h
section
variable {X:Cx} {pins:List (Addr × Obj)} {σ:St} {H:Hp} {s:Shared} {h':Heap}
theorem Inv.turnedT {t':Nat} {fp:List Addr} {T:Addr} {o:HO} (I:Inv X pins σ H s) (hf:∀ b ∈ fp,FpOk X pins H b) (k:∀ b o,b ∉ fp → s.heap.get? b = some o → h'.get? b = some o) (kf:∀ b ∈ fp,∃ o,h'.get? b = some o)
  (hT:s.heap.objs.size ≤ T) (new:ObjOk X.prog X.w (upd H T o) h' T o) : Inv X pins σ (upd H T o) { s with heap:=h',toks:=t' }:=by
 have hn:H T = none:=I.hok.fresh hT
 have nit:∀ b u,H b = some u → b ∉ fp:=fun b u e z=>by rw [(hf b z).1] at e; cases e
 have neT:∀ b u,s.heap.get? b = some u → b ≠ T:=fun b u e=>Nat.ne_of_lt (Nat.lt_of_lt_of_le (Heap.lt_size e) hT)
 refine I.step (g':=s.gens) (d':=s.drawn) (ch:=fp) (fun b hb=>?_) (fun b o _ _ hc e _=>k b o hc e) (fun b o _ _ hc e _=>⟨o.slots,k b o hc e⟩) (fun b o _ e n=>by rw [zad (neT b o e)]; exact n)
  (fun b o hc e=>⟨o,k b o hc e⟩) (fun b xs e=>by rw [zad (zaf e hn)]; exact e) (fun b o u e=>by rw [zad (zaf e hn)]; exact e) (fun b ps e=>⟨#[],by rw [zad (zaf e hn),e]; simp⟩) (fun m hm=>?_) (fun b u e=>?_) I.bare
 ·refine zaa ?_; intro G_; obtain ⟨f0,f1,f2,f3,f4,f5⟩:=hf b hb
  exact ⟨f3,f1,f4,f5⟩
 ·refine zaa ?_; intro G_; obtain ⟨o,es,ep,ho,r⟩:=hm
  exact ⟨o,es,ep,k _ o (fun z=>(hf _ z).2.1 rfl) ho,r⟩
 ·by_cases hb:b = T
  ·subst hb; rw [zab] at e; cases e; exact new
  ·rw [zad hb] at e
   refine (I.hok b u e).stay (fun c v hc q=>k c v ?_ q) (fun c q=>by rw [zad (zaf q hn)]; exact q) fun c xs q=>by rw [zad (zaf q hn)]; exact q
   rcases hc with z | z
   ·rw [z]; exact nit b u e
   ·exact nit c _ z
theorem Inv.turnedS {t':Nat} {fp:List Addr} (I:Inv X pins σ H s) (hf:∀ b ∈ fp,FpOk X pins H b) (k:∀ b o,b ∉ fp → s.heap.get? b = some o → h'.get? b = some o) : Inv X pins σ H { s with heap:=h',toks:=t' }:=by
 have nit:∀ b u,H b = some u → b ∉ fp:=fun b u e z=>by rw [(hf b z).1] at e; cases e
 refine I.step (g':=s.gens) (d':=s.drawn) (ch:=fp) (fun b hb=>?_) (fun b o _ _ hc e _=>k b o hc e) (fun b o _ _ hc e _=>⟨o.slots,k b o hc e⟩) (fun b o _ e n=>n)
  (fun b o hc e=>⟨o,k b o hc e⟩) (fun b xs e=>e) (fun b o u e=>e) (fun b ps e=>⟨#[],by rw [e]; simp⟩) (fun m hm=>?_) (fun b u e=>?_) I.bare
 ·refine zaa ?_; intro G_; obtain ⟨f0,f1,f2,f3,f4,f5⟩:=hf b hb
  exact ⟨f3,f1,f4,f5⟩
 ·refine zaa ?_; intro G_; obtain ⟨o,es,ep,ho,r⟩:=hm
  exact ⟨o,es,ep,k _ o (fun z=>(hf _ z).2.1 rfl) ho,r⟩
 ·refine (I.hok b u e).stay (fun c v hc q=>k c v ?_ q) (fun c q=>q) fun c xs q=>q
  rcases hc with z | z
  ·rw [z]; exact nit b u e
  ·exact nit c _ z
end
def Itz (K:PySem.W.Frag) (a b:Addr) : It :=
  ⟨fun i H=>∃ xs ys x y,SqL K H a xs ∧ SqL K H b ys ∧ xs[i]? = some x ∧ ys[i]? = some y,
   fun i H v H'=>∃ T x y,v = .ref T ∧ H T = none ∧ H' = upd H T (.tup [x,y]) ∧ ∀ xs ys,SqL K H a xs → SqL K H b ys → xs[i]? = some x ∧ ys[i]? = some y,
   fun i H=>∃ xs ys,SqL K H a xs ∧ SqL K H b ys ∧ (xs.length ≤ i ∨ ys.length ≤ i)⟩
section
variable {X:Cx} {elts:List Expr} {x1} {ps:Pos}
theorem zoK {K:PySem.W.Frag} {a b:Addr} {xs ys:List V} {g:TG} {tb:TS} {D:Ends} {σ:St} {H:Hp} (hlen:xs.length = ys.length) (Pv:Nat → St → Hp → Prop) (h0:Pv 0 σ H) (hl:∀ i σ H,i ≤ xs.length → Pv i σ H → SqL K H a xs ∧ SqL K H b ys)
  (hs:∀ i x y T σ H,xs[i]? = some x → ys[i]? = some y → Pv i σ H → H T = none → g (.ref T) σ (upd H T (.tup [x,y])) fun σ2 H2=>tb { D with nx:=Pv (i + 1),ct:=Pv (i + 1),bk:=D.nx } σ2 H2) (hd:∀ σ H,Pv xs.length σ H → D.nx σ H) :
  ∃ W:Nat → Nat → St → Hp → Prop,(∃ m,W 0 m σ H) ∧ ∀ i m σ H,W i m σ H →
   ((Itz K a b).stop i H ∧ D.nx σ H) ∨ ((Itz K a b).go i H ∧ ∃ N:St → Hp → Prop,(∀ σ' H',N σ' H' → ∃ m',m' < m ∧ W (i + 1) m' σ' H') ∧ ∀ x H',(Itz K a b).yld i H x H' → g x σ H' fun σ2 H2=>tb { D with nx:=N,ct:=N,bk:=D.nx } σ2 H2):=by
 refine ⟨fun i m σ H=>m = xs.length - i ∧ i ≤ xs.length ∧ Pv i σ H,⟨xs.length,by simp,Nat.zero_le _,h0⟩,?_⟩
 intro i m σ H h_
 refine zaa ?_; intro G_; obtain ⟨rfl,hi,p⟩:=h_
 obtain ⟨q1,q2⟩:=hl i σ H hi p
 by_cases hlt:i < xs.length
 ·refine .inr ⟨⟨xs,ys,xs[i],ys[i]'(hlen ▸ hlt),q1,q2,by simp [hlt],by simp [hlen ▸ hlt]⟩,Pv (i + 1),fun σ' H' p'=>⟨xs.length - (i + 1),by lia,rfl,hlt,p'⟩,fun x H' y=>?_⟩
  refine zaa ?_; intro G_; obtain ⟨T,x,y,rfl,hT,rfl,e⟩:=y
  obtain ⟨e1,e2⟩:=e xs ys q1 q2
  exact hs i x y T σ H e1 e2 p hT
 ·have e:i = xs.length:=by lia
  subst e
  exact .inl ⟨⟨xs,ys,q1,q2,.inl (Nat.le_refl _)⟩,hd σ H p⟩
theorem zkL {K:PySem.W.Frag} {a:Addr} {xs:List V} {g:TG} {tt:TT} {te:TE} {Q:VK} {σ:St} {H:Hp} {D:Addr} (Pv:Nat → St → Hp → Prop) (h0:Pv 0 σ H) (hl:∀ i σ H,i ≤ xs.length → Pv i σ H → SqT K H a xs)
  (hs:∀ i x σ H,xs[i]? = some x → Pv i σ H → g x σ H fun σ2 H2=>tt σ2 H2 fun b H3=>if b = true then te σ2 H3 fun v H4=>∃ zs,H4 D = some (.lst zs) ∧ zs.length < sizeLine ∧ Pv (i + 1) σ2 (upd H4 D (.lst (zs ++ [v]))) else Pv (i + 1) σ2 H3)
  (hd:∀ σ H,Pv xs.length σ H → Q (.ref D) H) : zdE (Itt K a) g tt te D Q σ H:=by
 refine ⟨fun i m σ H=>m = xs.length - i ∧ i ≤ xs.length ∧ Pv i σ H,⟨xs.length,by simp,Nat.zero_le _,h0⟩,?_⟩
 intro i m σ H h_
 refine zaa ?_; intro G_; obtain ⟨rfl,hi,p⟩:=h_
 have q:=hl i σ H hi p
 by_cases hlt:i < xs.length
 ·refine .inr ⟨⟨xs,xs[i],q,by simp [hlt]⟩,fun σ' H'=>Pv (i + 1) σ' H',fun σ' H' p'=>⟨xs.length - (i + 1),by lia,rfl,hlt,p'⟩,fun x H' y=>?_⟩
  obtain ⟨e,y⟩:=y
  subst e
  exact hs i x σ _ (y xs q) p
 ·have e:i = xs.length:=by lia
  subst e
  exact .inl ⟨⟨xs,q,Nat.le_refl _⟩,hd σ H p⟩
end
section
variable {X:Cx} {e o i:Expr} {te to ti:TE} {t:TA} {pos:Pos} {k:Nat}
theorem zk7 (w:World) (hw:X.w = w:=by rfl) : JC X (.type "set") (znk w):=by subst hw; exact ⟨zeX⟩
theorem zoA (w:World) (hw:X.w = w:=by rfl) : JOp X (binaryOp .BitOr) (rBor w):=by subst hw; exact ⟨znE⟩
theorem zlD (w:World) (hw:X.w = w:=by rfl) (hc:X.calm = true:=by rfl) : JC X (.builtin "sorted") (zlm w):=by subst hw; exact ⟨zfb hc⟩
theorem zmy (hc:X.calm = true:=by rfl) : JC X (.type "dict") zk9:=⟨zeh hc⟩
theorem zn9 (hr:Room k X.A) (hi:JE X i ti) (ho:JE X o to) (hb:behindInMarks .In o = false:=by rfl) : JE X (.Compare i [.In] [o] pos) (tDIn ti to):=⟨zlA (znN (by have:=hr.units; lia) hi.h ho.h) hb⟩
theorem znF {apos cpos spos:Pos} (ho:JE X o to) (ha:JA X [e] t) (hbase:attributeBase o "extend" X.env (eval o X.env) = eval o X.env:=by rfl) (hline:(apos.endLine == cpos.line) = true:=by rfl) :
  JS X (.Expr (.Call (.Attribute o "extend" apos) [e] [] cpos) spos) (zf1 (tBM X.K "list" zjO to t)) :=
 ⟨zgI (zl0 PySem.F.plainAttrs_list PySem.F.slot_list_extend PySem.F.type_list_extend zih ho.h ha.h hbase (by rw [ha.hd.star]; rfl) hline (ha.hd.star _ _) rfl) (Pln.swap (.call ..) _ _ _)⟩
end
end L2
namespace L2
open PySem PySem.Spec PyProof.Rows
def Ite (K:PySem.W.Frag) (a:Addr) : It :=
  ⟨fun i H=>∃ xs x,SqL K H a xs ∧ xs[i]? = some x,
   fun i H v H'=>∃ T x,v = .ref T ∧ H T = none ∧ H' = upd H T (.tup [.int i,x]) ∧ ∀ xs,SqL K H a xs → xs[i]? = some x,
   fun i H=>∃ xs,SqL K H a xs ∧ xs.length ≤ i⟩
abbrev efp (n:Nat) : List Addr:=[n,n + 1]
def etn (n:Nat) (a:Addr) (i:Nat) (h:Heap) : Prop:=(∃ old,IsEnum h (n + 1) n i old) ∧ h.IsListIter n a i
theorem zjS {n:Nat} {c:Addr} (h:c ∉ efp n) : c ≠ n ∧ c ≠ n + 1:=by
 simp only [efp,List.mem_cons,List.not_mem_nil,or_false,not_or] at h
 exact h
theorem ziU {P:Program} {w:World} {K:PySem.W.Frag} {elts:List Expr} {x1} {pos:Pos} (n a:Nat) (ha:a < n) : Turn P w K (.Tuple elts x1 pos) (Ite K a) (efp n) (n + 1) (etn n a) where
 mem:=by simp [efp]
 obj:=fun i h st c hc=>by
  refine zaa ?_; intro G_; obtain ⟨⟨old,s1⟩,o1,e1,c1,d1⟩:=st
  simp only [efp,List.mem_cons,List.not_mem_nil,or_false] at hc
  rcases hc with rfl | rfl
  ·exact ⟨o1,e1,fun v z=>by rw [d1] at z; cases z⟩
  ·exact ⟨_,s1,fun v z=>by cases z⟩
 keep:=fun i h h' st k=>by
  refine zaa ?_; intro G_; obtain ⟨⟨old,s1⟩,s4⟩:=st
  exact ⟨⟨old,k _ (by simp [efp]) _ s1⟩,s4.at fun o e=>k _ (by simp [efp]) o e⟩
 item:=by
  intro X hP hw hK hc i pins s σ H E I hf st hg
  subst hP hw hK
  refine zaa ?_; intro G_; obtain ⟨xs,x,hq,hx⟩:=hg
  refine zaa ?_; intro G_; obtain ⟨it1,rv1,p1,z1⟩:=I.list hq
  refine zaa ?_; intro G_; obtain ⟨u1,hu1,ru1⟩:=rv1.get hx
  refine zaa ?_; intro G_; obtain ⟨⟨old,s1⟩,s4⟩:=st
  refine wpAny_pyNext_enum_item s1 s4 p1.isList (by simpa using hu1) (nn (by lia)) fun h' q1 q3 q5 q6 q7=>?_
  refine (exg _ rfl (wpAny_letOwnedTupleGo_enum q1 fun h'' w1 w2=>?_))
  have lt1:n + 1 < s.heap.objs.size:=Heap.lt_size s1
  have nT:s.heap.objs.size ∉ efp n:=fun z=>by simp only [efp,List.mem_cons,List.not_mem_nil,or_false] at z; rcases z with z | z <;> exact absurd (show _ = (_:Nat) from z) (by lia)
  have kk:∀ c o,c ∉ efp n → s.heap.get? c = some o → h''.get? c = some o:=fun c o hcn e=>by
   obtain ⟨m1,m2⟩:=zjS hcn
   exact w2.extBut _ _ m2 (q7 c o m2 m1 e)
  have st':etn n a (i + 1) h'':=⟨⟨_,by have:=w1; simpa using this⟩,q3.extBut w2.extBut (nn (by lia))⟩
  have vv:Vals [.int i,x] [.int i s.toks,u1]:=.cons ⟨_,rfl⟩ (.cons ru1 .nil)
  have q5':=w2.extBut _ _ (nn (by lia)) q5
  have I1:Inv X pins σ (upd H s.heap.objs.size (.tup [.int i,x])) { s with heap:=h'',toks:=s.toks + 1 }:=I.turnedT (t':=s.toks + 1) hf kk (fun c hcn=>by
   refine zaa ?_; intro G_; obtain ⟨⟨_,t1⟩,⟨_,t4,_⟩⟩:=st'
   simp only [efp,List.mem_cons,List.not_mem_nil,or_false] at hcn
   rcases hcn with rfl | rfl
   ·exact ⟨_,t4⟩
   ·exact ⟨_,t1⟩) (Nat.le_refl _) ⟨by show 2 ≤ sizeLine; decide,[.int i s.toks,u1],vv,_,q5',rfl,_,rfl⟩
  refine ⟨.ref s.heap.objs.size,_,I1,rfl,⟨_,x,rfl,I.hok.fresh (Nat.le_refl _),rfl,fun xs' k1=>?_⟩,st',fun c hcn=>?_⟩
  ·rw [I.list_inj k1 hq]; exact hx
  ·rw [zad (fun (z:c = s.heap.objs.size)=>nT (by rw [← z]; exact hcn))]; exact (hf c hcn).1
 done:=by
  intro X hP hw hK hc i pins s σ H E I hf st hg
  subst hP hw hK
  refine zaa ?_; intro G_; obtain ⟨xs,hq,hz⟩:=hg
  refine zaa ?_; intro G_; obtain ⟨it1,rv1,p1,z1⟩:=I.list hq
  refine zaa ?_; intro G_; obtain ⟨⟨old,s1⟩,s4⟩:=st
  have l1:=rv1.length
  refine wpAny_pyNext_enum_end (I.ok.hd hc) s1 s4 p1.isList (by simp; lia) fun h' kk=>⟨rfl,I.turnedS (t':=s.toks) hf fun c o hcn e=>?_⟩
  obtain ⟨m1,m2⟩:=zjS hcn
  exact kk c o m1 e
 self:=fun _ _ _ _ _ st h=>by obtain ⟨⟨_,s1⟩,_⟩:=st; exact wpAny_pyIter_enum s1 h
section
variable {X:Cx} {elts:List Expr} {x1} {ps:Pos}
def zmV (K:PySem.W.Frag) (ta:TA) : TI:=fun σ H R=>ta σ H fun vs H1=>∃ a,vs = [.ref a] ∧ (∃ xs,SqL K H1 a xs) ∧ R (Ite K a) H1
theorem zma {e1:Expr} {ta:TA} {p pos:Pos} (hg:Gl X "enumerate") (hm:X.mg "enumerate" = none) (ha:PA X [e1] ta) (hs:starEach [e1] X.env = [(false,eval e1 X.env)]) :
  PI X (.Tuple elts x1 ps) (.Call (.Name "enumerate" p) [e1] [] pos) (zmV X.K ta):=by
 intro pins s σ H R I h
 refine Call_ (zez I hg hm boot_enumerate (PyProof.Rows.callWith_type1 (thn (ha pos pins s σ H _ I h) fun us s1 ⟨vs,H1,I1,r1,q1⟩=>?_) hs rfl))
 refine zaa ?_; intro G_; obtain ⟨a,e,⟨xs,hq1⟩,q⟩:=q1
 subst e
 cases r1 with
 | cons r rr =>
  cases rr
  cases r
  refine zaa ?_; intro G_; obtain ⟨it1,rv1,p1,z1⟩:=I1.list hq1
  have la:a < s1.heap.objs.size:=by obtain ⟨o,n,e,_⟩:=p1; exact Heap.lt_size e
  refine call_enumerate_list p1.isList fun h' k1 k4 k6 k7=>?_
  refine wpAny_pyIter_enum k1 ?_
  refine ⟨_,efp s1.heap.objs.size,etn s1.heap.objs.size a,Ite X.K a,H1,rfl,I1.kept (t':=s1.toks) k7,ziU s1.heap.objs.size a la,⟨⟨_,k1⟩,k4⟩,fun c hc=>?_,q⟩
  refine I1.fpOk ?_ (I1.hok.fresh ?_)
  all_goals (simp only [efp,List.mem_cons,List.not_mem_nil,or_false] at hc; rcases hc with rfl | rfl <;> simp)
theorem zmZ {e1:Expr} {t:TA} {p pos:Pos} (hm:X.mg "enumerate" = none) (ha:JA X [e1] t) (hg:Gl X "enumerate" := by rfl) : JI X (.Tuple elts x1 ps) (.Call (.Name "enumerate" p) [e1] [] pos) (zmV X.K t) :=
 ⟨zma hg hm ha.h (ha.hd.star _ _)⟩
theorem zj9 {K:PySem.W.Frag} {a:Addr} {xs:List V} {g:TG} {tb:TS} {D:Ends} {σ:St} {H:Hp} (Pv:Nat → St → Hp → Prop) (h0:Pv 0 σ H) (hl:∀ i σ H,i ≤ xs.length → Pv i σ H → SqL K H a xs)
  (hs:∀ (i:Nat) x T σ H,xs[i]? = some x → Pv i σ H → H T = none → g (.ref T) σ (upd H T (.tup [.int i,x])) fun σ2 H2=>tb { D with nx:=Pv (i + 1),ct:=Pv (i + 1),bk:=D.nx } σ2 H2) (hd:∀ σ H,Pv xs.length σ H → D.nx σ H) :
  ∃ W:Nat → Nat → St → Hp → Prop,(∃ m,W 0 m σ H) ∧ ∀ i m σ H,W i m σ H →
   ((Ite K a).stop i H ∧ D.nx σ H) ∨ ((Ite K a).go i H ∧ ∃ N:St → Hp → Prop,(∀ σ' H',N σ' H' → ∃ m',m' < m ∧ W (i + 1) m' σ' H') ∧ ∀ x H',(Ite K a).yld i H x H' → g x σ H' fun σ2 H2=>tb { D with nx:=N,ct:=N,bk:=D.nx } σ2 H2):=by
 refine ⟨fun i m σ H=>m = xs.length - i ∧ i ≤ xs.length ∧ Pv i σ H,⟨xs.length,by simp,Nat.zero_le _,h0⟩,?_⟩
 intro i m σ H h_
 refine zaa ?_; intro G_; obtain ⟨rfl,hi,p⟩:=h_
 have q1:=hl i σ H hi p
 by_cases hlt:i < xs.length
 ·refine .inr ⟨⟨xs,xs[i],q1,by simp [hlt]⟩,Pv (i + 1),fun σ' H' p'=>⟨xs.length - (i + 1),by lia,rfl,hlt,p'⟩,fun x H' y=>?_⟩
  refine zaa ?_; intro G_; obtain ⟨T,x,rfl,hT,rfl,e⟩:=y
  exact hs i x T σ H (e xs q1) p hT
 ·have e:i = xs.length:=by lia
  subst e
  exact .inl ⟨⟨xs,q1,Nat.le_refl _⟩,hd σ H p⟩
end
end L2
namespace L2
open PySem PySem.Spec PyProof.Rows
section
variable {prog:Program} {w:World} {A:Around} {E:Value → Shared → Prop} {s:Shared}
theorem zdm {a:Addr} {n:Nat} {xs:List V} {vs:List Value} {kf:V → List Int} {P:PySem.Fin → Shared → Prop} (ho:s.heap.get? a = some (seqObj "list" vs.toArray n)) (r:Vals xs vs) (K:KeysAt s.heap vs (xs.map kf)) (h64:vs.length < 64)
  (h:∀ (ys:List V) (ws:List Value),Vals ys ws → ys.Perm xs → zaV kf ys → P (.done (.ret .none)) { s with heap:=sortedHeap s.heap a vs ws.toArray }) :
  wpAny (model prog w) A (Builtin.«list.sort» ⟨[.ref a],[]⟩) P E s:=by
 rw [list_sort_plain]; have ha:a < s.heap.objs.size:=Heap.lt_size ho
 have hl:=Vals.length r; refine wpAny_bind (listItems_at ho rfl ?_)
 refine wpAny_bind (listUpdate_at ho rfl ?_); obtain ⟨e1,ho1⟩ : ∃ e1,(s.heap.update a (Obj.mapSeq fun _=>#[])).get? a = some (seqObj "list" #[] e1):=⟨_,get?_update_seq ho (fun _=>#[])⟩
 refine wpAny_bind (seqEpoch_at ho1 rfl ?_); refine wpAny_bind (wpAny_newTuple ?_)
 refine wpAny_bind (wpAny_newList ?_); refine wpAny_holding ?_
 have ho6:(((s.heap.update a (Obj.mapSeq fun _=>#[])).push (seqObj "tuple" vs.toArray 0)).push (seqObj "list" #[] 0)).get? a = some (seqObj "list" #[] e1):=by
  rw [Heap.get?_push_ne _ _ _ (by rw [size_push',Heap.size_update]; exact Nat.ne_of_lt (Nat.lt_succ_of_lt ha)),Heap.get?_push_ne _ _ _ (by rw [Heap.size_update]; exact Nat.ne_of_lt ha)]; exact ho1
 show wpAny (model prog w) A _ P E { s with heap:=((s.heap.update a (Obj.mapSeq fun _=>#[])).push (seqObj "tuple" vs.toArray 0)).push (seqObj "list" #[] 0) }; dsimp only
 have hsz:vs.toArray.size = vs.length:=by simp
 by_cases h2:vs.toArray.size < 2
 ·rw [if_pos h2,if_pos h2]
  refine wpAny_bind (wpAny_pure ?_); rw [StateT.run_pure]
  refine wpAny_bind (wpAny_pure ?_); dsimp only
  refine wpAny_bind (seqEpoch_at ho6 rfl ?_)
  have eo:(arrOf (SortSt.mk' general' (vs.toArray.zip vs.toArray) #[] 7 none)).map (·.2) = vs.toArray:=by
   show ((vs.toArray.zip vs.toArray)).map (·.2) = vs.toArray
   apply Array.toList_inj.mp
   rw [Array.toList_map,Array.toList_zip,List.map_snd_zip]
   simp
  rw [eo]; refine wpAny_bind (listUpdate_at ho6 rfl ?_ (hsz2:=by rw [hsz,sizeLine_eq]; lia))
  simp only [bne_self_eq_false,Bool.false_eq_true,if_false]; refine wpAny_pure (h xs vs r (List.Perm.refl _) ?_)
  unfold zaV
  match xs,hl with
  | [],_=>exact .nil
  | [_],_=>exact List.pairwise_singleton _ _
  | _ :: _ :: _,hl=>simp at hl; lia
 ·rw [if_neg h2,if_neg h2]
  have h2':2 ≤ vs.length:=by rw [hsz] at h2; lia
  have K6:KeysAt (((s.heap.update a (Obj.mapSeq fun _=>#[])).push (seqObj "tuple" vs.toArray 0)).push (seqObj "list" #[] 0)) vs (xs.map kf):=Paired.mapP K fun v k x=>x.keeps fun b o hb hc=>by
   have ne:b ≠ a:=fun e=>by rw [e,ho] at hb; cases hb; have hc':Value.type "list" = Value.type "tuple" := hc; injection hc' with q; exact absurd q (by decide)
   have hlt:b < s.heap.objs.size:=Heap.lt_size hb
   rw [Heap.get?_push_ne _ _ _ (by rw [size_push',Heap.size_update]; exact Nat.ne_of_lt (Nat.lt_succ_of_lt hlt)),Heap.get?_push_ne _ _ _ (by rw [Heap.size_update]; exact Nat.ne_of_lt hlt),Heap.get?_update_ne _ _ _ _ ne]; exact hb
  generalize hs6:({ s with heap:=((s.heap.update a (Obj.mapSeq fun _=>#[])).push (seqObj "tuple" vs.toArray 0)).push (seqObj "list" #[] 0) } : Shared) = s6
  have K6':KeysAt s6.heap vs (xs.map kf):=(by rw [← hs6]; exact K6); refine wpAny_bind (zfz K6' (by lia) ?_)
  refine wpAny_bind (wpAny_mono (PySem.W.kat_run (Q:=fun st' s'=>s' = s6 ∧ ∃ p:Array Nat,arrOf st' = p.map (PySem.W.kas_item (vs.toArray.zip vs.toArray)) ∧ failedOf st' = none ∧ Wr.PBase vs.length p ∧ Wr.Up (fun i=>zel (xs.map kf) ((xs.map kf).getD i [])) p vs.length)
   (G:=fun p s'=>s' = s6 ∧ Wr.PBase vs.length p ∧ Wr.Up (fun i=>zel (xs.map kf) ((xs.map kf).getD i [])) p vs.length) rfl h2' (by lia) (fun p st' s' a1 a2 a3 a4=>⟨a4.1,p,a2,a3,a4.2⟩) ?_) ?_ fun _ _ z=>z)
  ·exact Wr.w_sort (zfm (prog:=prog) (w:=w) (A:=A) K6') (by lia) fun p B u=>⟨rfl,B,u⟩
  ·rintro ⟨⟨⟩,st'⟩ s' ⟨rfl,p,e1',hf,B,u⟩
   dsimp only
   subst hs6
   have ho':=PySem.W.kat_snds rfl e1'; rw [← hl] at B u
   refine wpAny_bind (seqEpoch_at ho6 rfl ?_); rw [ho']
   refine wpAny_bind (listUpdate_at ho6 rfl ?_ (hsz2:=(by rw [List.size_toArray,List.length_map,Array.length_toList,B.size,sizeLine_eq]; lia))); rw [hf]
   simp only [bne_self_eq_false,Bool.false_eq_true,if_false]; exact wpAny_pure (h _ _ (zdG r p.toList) (zfS xs .non p.toList B.perm) (zd9 B u (by lia)))
end
end L2
namespace Wr
open PySem PySem.Spec PyProof.Rows
structure RDict (h:Heap) (d:Addr) (es:Array DictEntry) (ep:Nat) : Prop where
 ex:∃ o,h.get? d = some o ∧ o.ExactDict ∧ o.data = .dict es ep
theorem RDict.at {h h':Heap} {d:Addr} {es:Array DictEntry} {ep:Nat} (x:RDict h d es ep) (e:∀ o,h.get? d = some o → h'.get? d = some o) : RDict h' d es ep:=let ⟨o,a,r⟩:=x.ex; ⟨o,e o a,r⟩
section
variable {prog:Program} {w:World} {A:Around} {E:Value → Shared → Prop} {s:Shared} {d:Addr} {es:Array DictEntry} {ep:Nat}
theorem RDict.typeIs (x:RDict s.heap d es ep) : s.TypeIs (.ref d) "dict" := let ⟨o,a,b,_⟩:=x.ex; ⟨o,a,b.1⟩
theorem rd_iter {Q:Value → Shared → Prop} (hd:(d == sysModules) = false) (hm:RDict s.heap d es ep)
  (hQ:∀ h',h'.IsKeyIter s.heap.objs.size d 0 es.size ep → (∀ b o,s.heap.get? b = some o → h'.get? b = some o) → Q (.ref s.heap.objs.size) { s with heap:=h' }) : wpAny (model prog w) A (pyIter (.ref d)) Q E s:=by
 obtain ⟨o,ho,hc,hdat⟩:=id hm.ex; have hT:=hm.typeIs
 refine wpAny_pyIter_slot hT F.slot_dict_iter (wpAny_call_entry F.slot_dict_iter hT F.entry_dict_iter ?_ (F.args_dict_iter_1 _)); unfold Builtin.«dict.__iter__»
 refine wpAny_bind ?_; unfold Builtin.Dict.dictSlotNone
 refine wpAny_bind (wpAny_notOrdered_dict hT ?_); show wpAny _ _ (pure (Value.ref d)) _ _ s
 refine wpAny_pure ?_; show wpAny _ _ (Builtin.Dict.showsAll d >>= _) _ _ s
 unfold Builtin.Dict.showsAll; rw [if_neg (by rw [hd]; exact Bool.false_ne_true)]
 refine wpAny_bind (wpAny_pure (wpAny_bind (wpAny_dictEntries ho hdat (wpAny_bind (wpAny_dictEpoch ho hdat ?_)))))
 refine wpAny_bind (wpAny_newObj_type (wpAny_pure ⟨_,rfl,"dict_keyiterator", _,⟨_,Heap.get?_push_size _ rfl,rfl⟩,F.slot_dict_keyiterator_next.lookup,?_⟩))
 exact hQ _ ⟨_,Heap.get?_push_size _ rfl,rfl,rfl⟩ fun b o e=>Heap.get?_push_of_some _ e
theorem rd_iterK {v:Addr} {Q:Value → Shared → Prop} (hv:PySem.W.KdlKeysView s.heap v d) (hm:RDict s.heap d es ep)
  (hQ:∀ h',h'.IsKeyIter s.heap.objs.size d 0 es.size ep → (∀ b o,s.heap.get? b = some o → h'.get? b = some o) → Q (.ref s.heap.objs.size) { s with heap:=h' }) : wpAny (model prog w) A (pyIter (.ref v)) Q E s:=by
 obtain ⟨ov,hov,hcv,hdv⟩:=id hv; obtain ⟨o,ho,hc,hdat⟩:=id hm.ex
 refine wpAny_pyIter_slot hv.typeIs PySem.W.kdl_slot_keys_iter (wpAny_call_entry PySem.W.kdl_slot_keys_iter hv.typeIs PySem.W.kdl_entry_keys_iter ?_ (PySem.W.kdl_args_keys_iter _)); unfold Builtin.«dict_keys.__iter__»
 refine wpAny_bind (wpAny_pure (wpAny_bind ?_)); unfold Builtin.Dict_items.dictOf
 refine wpAny_bind (wpAny_field hov hdv (x:=.ref d) rfl (wpAny_pure (wpAny_bind ?_))); unfold Builtin.Dict_items.newIterator
 refine wpAny_bind (wpAny_dictEntries ho hdat (wpAny_bind (wpAny_dictEpoch ho hdat ?_)))
 have hown:Builtin.Dict_items.ownsTuple "dict_keyiterator" = false:=(by decide); simp only [hown,Bool.false_eq_true,if_false]
 refine wpAny_newObj_type (wpAny_pure ⟨_,rfl,"dict_keyiterator", _,⟨_,Heap.get?_push_size _ rfl,rfl⟩,PySem.F.slot_dict_keyiterator_next.lookup,?_⟩)
 exact hQ _ ⟨_,Heap.get?_push_size _ rfl,rfl,rfl⟩ fun b o e=>Heap.get?_push_of_some _ e
theorem rd_next {it:Addr} {i:Nat} {e:DictEntry} {Q:Option Value → Shared → Prop} (hit:s.heap.IsKeyIter it d i es.size ep) (hm:RDict s.heap d es ep) (hx:es[i]? = some e)
  (hQ:∀ h',h'.IsKeyIter it d (i + 1) es.size ep → Heap.SameBut it s.heap h' → Q (some e.key) { s with heap:=h' }) : wpAny (model prog w) A (pyNext (.ref it)) Q E s:=by
 obtain ⟨o,ho,hc,hd⟩:=id hit; obtain ⟨od,hod,hcd,hdd⟩:=id hm.ex; unfold pyNext
 refine wpAny_bind (wpAny_attempt (wpAny_callSpecial?_slot (name:=Str.ofString "__next__") hit.typeIs F.slot_dict_keyiterator_next (wpAny_call_entry F.slot_dict_keyiterator_next hit.typeIs F.entry_dict_keyiterator_next ?_ (F.args_dict_keyiterator_next_1 _))))
 refine wpAny_bind (wpAny_pure (wpAny_bind (wpAny_bind ?_)))
 first | refine wpAny_bind (wpAny_typeNameOfWhole_keyiter hit.typeIs (wpAny_pure ?_)); skip | refine wpAny_bind (wpAny_typeNameOf_keyiter hit.typeIs (wpAny_pure ?_)); skip
 have hown:Builtin.Dict_items.ownsTuple "dict_keyiterator" = false:=(by decide)
 refine wpAny_bind (wpAny_fieldsOf ho hd ?_); simp only [hown,Bool.false_eq_true,if_false]
 show wpAny _ _ (if (Value.ref d == Value.none) = true then _ else _) _ _ s; rw [if_neg (show ¬ ((Value.ref d == Value.none) = true) from Bool.false_ne_true)]
 refine wpAny_bind (wpAny_pure (wpAny_bind (wpAny_dictEntries hod hdd ?_))); rw [if_neg (by simp)]
 refine wpAny_bind (wpAny_pure (wpAny_bind (wpAny_dictEpoch hod hdd ?_))); rw [if_neg (by simp)]; refine wpAny_pure ?_
 obtain ⟨hlt',ee⟩:=Array.getElem?_eq_some_iff.mp hx
 simp only [show ¬ ((i:Int) < 0) from (by lia),if_false,Int.toNat_natCast,Array.getElem?_eq_getElem hlt']; refine wpAny_bind ?_
 first | refine wpAny_bind (wpAny_typeNameOfWhole_keyiter hit.typeIs (wpAny_pure ?_)); skip | refine wpAny_bind (wpAny_typeNameOf_keyiter hit.typeIs (wpAny_pure ?_)); skip
 refine wpAny_bind (wpAny_isOneOf_keyiter hit.typeIs ?_); show wpAny _ _ (setField (.ref it) 1 (rawInt ((i:Int) + 1)) >>= _) _ _ s
 refine wpAny_bind (wpAny_setField ho hd (by simp) ?_)
 have hit':(s.heap.update it (Obj.mapFields (·.setIfInBounds 1 (rawInt ((i:Int) + 1))))).IsKeyIter it d (i + 1) es.size ep:=⟨_,Heap.get?_update_self _ ho (Obj.isFreed_of_fields (Obj.data_mapFields hd _)),(Obj.cls_mapFields ..).trans hc,by rw [Obj.data_mapFields hd]; simp [rawInt]⟩
 refine wpAny_bind (wpAny_holding (wpAny_bind (wpAny_isOneOf_keyiter (s:={ s with heap:=s.heap.update it (Obj.mapFields (·.setIfInBounds 1 (rawInt ((i:Int) + 1)))) }) hit'.typeIs ?_)))
 show wpAny _ _ (pure es[i].key) _ _ _; rw [ee]
 exact wpAny_pure (wpAny_pure ⟨_,rfl,wpAny_pure (hQ _ hit' (Heap.SameBut.update ..))⟩)
theorem rd_end {it:Addr} {i:Nat} {Q:Option Value → Shared → Prop} (hh:A.handled = none) (hit:s.heap.IsKeyIter it d i es.size ep) (hm:RDict s.heap d es ep) (hx:es.size ≤ i)
  (hQ:∀ h',Heap.ExtBut it s.heap h' → Q none { s with heap:=h' }) : wpAny (model prog w) A (pyNext (.ref it)) Q E s:=by
 obtain ⟨o,ho,hc,hd⟩:=id hit; obtain ⟨od,hod,hcd,hdd⟩:=id hm.ex; unfold pyNext
 refine wpAny_bind (wpAny_attempt (wpAny_callSpecial?_slot (name:=Str.ofString "__next__") hit.typeIs F.slot_dict_keyiterator_next (wpAny_call_entry F.slot_dict_keyiterator_next hit.typeIs F.entry_dict_keyiterator_next ?_ (F.args_dict_keyiterator_next_1 _))))
 refine wpAny_bind (wpAny_pure (wpAny_bind (wpAny_bind ?_)))
 first | refine wpAny_bind (wpAny_typeNameOfWhole_keyiter hit.typeIs (wpAny_pure ?_)); skip | refine wpAny_bind (wpAny_typeNameOf_keyiter hit.typeIs (wpAny_pure ?_)); skip
 have hown:Builtin.Dict_items.ownsTuple "dict_keyiterator" = false:=(by decide)
 refine wpAny_bind (wpAny_fieldsOf ho hd ?_); simp only [hown,Bool.false_eq_true,if_false]
 show wpAny _ _ (if (Value.ref d == Value.none) = true then _ else _) _ _ s; rw [if_neg (show ¬ ((Value.ref d == Value.none) = true) from Bool.false_ne_true)]
 refine wpAny_bind (wpAny_pure (wpAny_bind (wpAny_dictEntries hod hdd ?_))); rw [if_neg (by simp)]
 refine wpAny_bind (wpAny_pure (wpAny_bind (wpAny_dictEpoch hod hdd ?_))); rw [if_neg (by simp)]; refine wpAny_pure ?_
 simp only [show ¬ ((i:Int) < 0) from (by lia),if_false,Int.toNat_natCast,Array.getElem?_eq_none hx]; refine wpAny_bind ?_
 first | refine wpAny_bind (wpAny_typeNameOfWhole_keyiter hit.typeIs (wpAny_pure ?_)); skip | refine wpAny_bind (wpAny_typeNameOf_keyiter hit.typeIs (wpAny_pure ?_)); skip
 show wpAny _ _ (setField (.ref it) 0 .none >>= _) _ _ s; refine wpAny_bind (wpAny_setField ho hd (by simp) ?_)
 show wpAny _ _ (newExc (.type "StopIteration") [] >>= _) _ _ _; refine wpAny_bind ?_; simp only [newExc,newTuple]
 refine wpAny_bind (wpAny_newObj_type ?_ (by size_fits)); refine wpAny_bind (m:=firstArgMember _ _) (wpAny_of_eq (a:=Value.none) (by first | rfl | (simp only [firstArgMember]; rfl)) ?_)
 refine wpAny_newObj_type ?_ (by size_fits); simp only [raiseNew]; refine wpAny_bind (wpAny_handled ?_)
 rw [show A.in1.handled = none from hh]; refine wpAny_bind (wpAny_pure (wpAny_throw ?_)); refine wpAny_bind (wpAny_isInstance (T := "StopIteration") (b:=true) ⟨_,Heap.get?_push_size _ rfl,rfl⟩ isSubtype_stop ?_)
 exact wpAny_pure (hQ _ (((Heap.SameBut.update ..).extBut.push _).push _))
theorem rd_walks (hh:A.handled = none) (I d:Addr) (hne:d ≠ I) (es:Array DictEntry) (ep:Nat) :
  Walks prog w A I [I,d] [I] es.size (fun i v=>∃ e,es[i]? = some e ∧ v = e.key) (fun i h=>h.IsKeyIter I d i es.size ep ∧ RDict h d es ep) where
 sub:=fun b hb=>by simp at hb; simp [hb]
 frame:=fun _ _ _ st hk=>⟨st.1.at fun o e=>hk I (by simp) o e,st.2.at fun o e=>hk d (by simp) o e⟩
 item:=fun i s Q E hi st hQ=>by
  have hx:es[i]? = some es[i]:=by simp [hi]
  exact rd_next st.1 st.2 hx fun h' hit' hs'=>hQ _ h' s.toks ⟨_,hx,rfl⟩ ⟨hit',st.2.at fun o e=>hs'.extBut _ o hne e⟩ fun b o hb e=>hs'.extBut b o (fun h=>hb (by simp [h])) e
 done:=fun s Q E st hQ=>rd_end hh st.1 st.2 (Nat.le_refl _) fun h' he'=>hQ h' s.toks fun b o hb e=>he' b o (fun h=>hb (by simp [h])) e
 self:=fun _ _ _ _ st hQ=>wpAny_pyIter_keyiter st.1 hQ
end
end Wr
namespace L2
open PySem PySem.Spec PyProof.Rows
section
variable {prog:Program} {w:World} {A:Around} {E:Value → Shared → Prop} {s:Shared}
theorem zdB {c d:Addr} {T:String} {es:Array DictEntry} {ep:Nat} {xs:List V} {kf:V → List Int} {Q:Value → Shared → Prop} (hh:A.handled = none) (hc:c < s.heap.objs.size) (hm:Wr.RDict s.heap d es ep)
  (hT:∀ h':Heap,(∀ b o,s.heap.get? b = some o → h'.get? b = some o) → ({ s with heap:=h' } : Shared).TypeIs (.ref c) T) (h1:(Value.type T == Value.type "list") = false) (h2:(Value.type T == Value.type "tuple") = false)
  (hit:∀ (h':Heap) (Q':Value → Shared → Prop),(∀ b o,s.heap.get? b = some o → h'.get? b = some o) →
   (∀ h'',h''.IsKeyIter h'.objs.size d 0 es.size ep → (∀ b o,h'.get? b = some o → h''.get? b = some o) → Q' (.ref h'.objs.size) { s with heap:=h'' }) → wpAny (model prog w) A.in1.in1 (pyIter (.ref c)) Q' E { s with heap:=h' })
  (hint:∀ (h':Heap) (Q':Bool → Shared → Prop),(∀ b o,s.heap.get? b = some o → h'.get? b = some o) → Q' false { s with heap:=h' } → wpAny (model prog w) A.in1.in1 (Builtin.List.listLengthHint (.ref c)) Q' E { s with heap:=h' })
  (r:Vals xs (es.toList.map (·.key))) (K:KeysAt s.heap (es.toList.map (·.key)) (xs.map kf)) (h64:es.size < 64)
  (h:∀ (D:Addr) (h':Heap) (ys:List V) (ws:List Value) (e tk:Nat),(∀ b o,s.heap.get? b = some o → h'.get? b = some o) → s.heap.objs.size ≤ D → h'.get? D = some (seqObj "list" ws.toArray e) → Vals ys ws → ys.Perm xs → zaV kf ys → Q (.ref D) { s with heap:=h',toks:=tk }) :
  wpAny (model prog w) A (call (.builtin "sorted") [.ref c]) Q E s:=by
 refine zaa ?_; intro G_; obtain ⟨od,hod,_,_⟩:=id hm.ex
 have hd:d < s.heap.objs.size:=Heap.lt_size hod
 refine Calls.call_function_entry kind_sorted plain_sorted entry_sorted (args_sorted1 _) ?_
 unfold Builtin.«sorted»
 refine wpAny_bind (m:=checkCount "sorted" 1 1 _) (wpAny_pure (wpAny_bind ?_))
 have hz:es.size ≤ sizeLine:=zcm h64
 refine Wr.collect_byD (A:=A.in1) (T:=T) (n:=es.size) (P:=fun i v=>∃ e,es[i]? = some e ∧ v = e.key) (St:=fun it i h=>h.IsKeyIter it d i es.size ep ∧ Wr.RDict h d es ep) hc hd hT h1 h2
  (fun h' Q' k hge hq=>hit h' Q' k fun h'' st k2=>hq h'.objs.size h'' (Nat.le_refl _) k2 ⟨st,hm.at fun o e=>k2 _ _ (k _ _ e)⟩) hint (fun it hne=>Wr.rd_walks (A:=A.in1.in1) (by simpa using hh) it d hne es ep) hz fun h3 tk acc k1 hsz htk items=>?_
 have ea:acc.toList = es.toList.map (·.key):=by
  apply List.ext_getElem
  ·rw [Array.length_toList,List.length_map,Array.length_toList,items.1]
  ·intro i hi hi2
   rw [Array.length_toList] at hi
   obtain ⟨e,e1,e2⟩:=items.2 i acc[i] (by simp [hi])
   obtain ⟨q1,q2⟩:=Array.getElem?_eq_some_iff.mp e1
   simp [q2,e2]
 rw [ea]
 have l64:(es.toList.map (·.key)).length < 64:=by rw [List.length_map,Array.length_toList]; exact h64
 refine wpAny_bind (wpAny_newList ?_ (zcm l64))
 have hoL:(h3.push (seqObj "list" (es.toList.map (·.key)).toArray 0)).get? h3.objs.size = some (seqObj "list" (es.toList.map (·.key)).toArray 0):=Heap.get?_push_size _ rfl
 have K3:KeysAt (h3.push (seqObj "list" (es.toList.map (·.key)).toArray 0)) (es.toList.map (·.key)) (xs.map kf):=Paired.mapP K fun v k x=>x.keeps fun b o hb _=>Heap.get?_push_of_some _ (k1 b o hb)
 refine wpAny_bind (wpAny_holding (wpAny_call_entry (s:={ s with heap:=h3.push (seqObj "list" (es.toList.map (·.key)).toArray 0),toks:=tk }) slot_list_sort ⟨_,hoL,rfl⟩ entry_list_sort (zdm hoL r K3 l64 fun ys ws v1 v2 v3=>(exg _ rfl ?_)) (args_list_sort _)))
 obtain ⟨e,he⟩:=sortedHeap_at (out:=ws.toArray) hoL
 refine wpAny_pure (exg _ rfl (h h3.objs.size _ ys ws e tk (fun b ob q=>?_) (Nat.le_of_lt hsz) he v1 v2 v3))
 have hb:b < h3.objs.size:=Heap.lt_size (k1 b ob q)
 rw [sortedHeap_old (Nat.ne_of_lt hb) (by rw [Heap.size_push]; exact Nat.lt_succ_of_lt hb)]
 exact Heap.get?_push_of_some _ (k1 b ob q)
end
end L2
namespace Wr
open PySem PySem.Spec PyProof.Rows
section
variable {prog:Program} {w:World} {K:Type} [DecidableEq K] {knd:HeapKind prog w K} {A:Around} {E:Value → Shared → Prop} {s:Shared}
theorem setDefault_heap {d a:Addr} {xs:List (K × Addr × Value)} {k:K} {v:Value} {Q:Value → Shared → Prop} (hu:knd.room A) (hkey:knd.is s.heap k a) (hm:s.heap.DictOfH knd d xs)
  (h1:∀ p,atKey xs k = some p → Q p.2 { s with toks:=s.toks + knd.draws k })
  (h2:atKey xs k = none → ∀ h',h'.DictOfH knd d (storedH xs k a v) → Heap.SameBut d s.heap h' → Q v { s with heap:=h',toks:=s.toks + knd.draws k })
  (hsz:xs.length ≤ sizeLine) : wpAny (model prog w) A (dictSetDefault d (.ref a) v) Q E s:=by
 obtain ⟨o,es,ep,ho,hc,hd,he,his,hn⟩:=hm; unfold dictSetDefault
 try with_reducible refine wpAny_holding ?_; skip
 refine wpAny_bind (knd.pyHash hu hkey (wpAny_bind (wpAny_dictFind_heap (s:={ s with toks:=s.toks + knd.draws k }) hu hkey ho hd he his hn ?_ ?_)))
 ·intro hno; have hnot:k ∉ xs.map (·.1):=not_mem_keys_of_get hno; have hat:=atKey_none_of_get hno; have q2:=h2 hat; rw [storedH_new hat] at q2
  refine wpAny_bind (wpAny_rule (wpAny_bind (wpAny_updateDictKeys (hz:=by have e:=size_of_entries he; lia) (s:={ s with toks:=s.toks + knd.draws k }) ho hd (wpAny_pure (q2 _ ⟨_,_,ep + 1,Heap.get?_update_self _ ho (Obj.isFreed_of_dict (Obj.data_mapDictKeys hd _)),hc.mapDictKeys _,Obj.data_mapDictKeys hd _,?_,?_,?_⟩ (Heap.SameBut.update ..))))))
  ·simp [he,entryOfKey]
  ·intro x hx
   rcases List.mem_append.mp hx with hx | hx
   ·exact knd.keeps (his x hx) ho hd (Heap.SameBut.update ..)
   ·rw [List.mem_singleton.mp hx]; exact knd.keeps hkey ho hd (Heap.SameBut.update ..)
  ·rw [List.map_append,List.nodup_append]
   refine ⟨hn,(by simp),fun x hx y hy=>?_⟩
   have hy':y = k:=by simpa using hy
   subst hy'; exact fun e=>hnot (e ▸ hx)
 ·intro j p hj
  refine wpAny_bind (wpAny_dictEntries (s:={ s with toks:=s.toks + knd.draws k }) ho hd ?_); rw [entry_at he j,hj]
  exact wpAny_bind (wpAny_rule (wpAny_pure (h1 p (atKey_of_get hn hj))))
end
end Wr
namespace L2
open PySem PySem.Spec PyProof.Rows
section
variable {X:Cx} {pins:List (Addr × Obj)} {σ:St} {H:Hp} {s:Shared}
def zgp:V → List V → Hp → VK → Prop:=fun x xs H Q=>∃ (d b:Addr) (z:V) (kvs:List (List Key × V)) (k:List Key),x = .ref d ∧ xs = [.ref b,z] ∧ H d = some (.dT kvs) ∧ H b = some (.tup (k.map kV)) ∧ kvs.length < sizeLine ∧
 (match valV kvs k with | some v=>Q v H | none=>Q z (upd H d (.dT (putK kvs k z))))
theorem zii (hu:X.A.units + 1 < cLine) : MtR X "dict.setdefault" zgp:=by
 rintro pins s σ H x xs v us Q I rx r ⟨d,b,z,kvs,k,e1,e2,e,eb,hl,q⟩
 subst e1 e2
 cases rx
 refine zaa ?_; intro G_; obtain ⟨u1,u2,rfl,r1,r2⟩:=vals2 r
 cases r1
 refine zaa ?_; intro G_; obtain ⟨hz,hd,ys,rel,dd⟩:=zoH I.hok e
 have hT:s.TypeIs (.ref d) "dict" := dd.typeIs
 have hle:(putK kvs k z).length ≤ sizeLine:=by have:=zgh kvs k z; lia
 refine wpAny_call_entry PySem.F.slot_dict_setdefault hT PySem.F.entry_dict_setdefault ?_ (PySem.F.args_dict_setdefault_3 _ _ _)
 unfold Builtin.«dict.setdefault»; refine wpAny_bind ?_; unfold Builtin.Dict.keyAndDefault
 refine wpAny_bind (wpAny_notOrdered_dict hT ?_); show wpAny _ _ (pure (d,Value.ref b,some u2)) _ _ s
 refine wpAny_pure ?_; show wpAny _ _ (if (d == sysModules) = true then _ else (dictSetDefault d (.ref b) u2 >>= _)) _ _ s
 rw [if_neg (by rw [hd]; exact Bool.false_ne_true)]
 refine wpAny_bind (Wr.setDefault_heap (tupleKind_room_in1 hu) (zhq I.hok eb) dd (fun p hp=>?_) (fun hp h' dd' hs=>?_) (by rw [← Paired.length rel]; exact hz))
 ·refine wpAny_pure (exg _ rfl ?_)
  have rv:=rel.val k
  rw [hp] at rv
  cases ev:valV kvs k with
  | none=>rw [ev] at rv; exact False.elim (by cases rv)
  | some v' =>
   rw [ev] at q rv
   exact ⟨v',H,I.tok _,rv,q⟩
 ·refine wpAny_pure (exg _ rfl ?_)
  have rv:=rel.val k
  rw [hp] at rv
  cases ev:valV kvs k with
  | some v'=>rw [ev] at rv; exact False.elim (by cases rv)
  | none =>
   rw [ev] at q
   refine zaa ?_; intro G_; obtain ⟨qo,es,ep,hq,h2,h3,h4,_,h5⟩:=dd'
   refine ⟨z,_,zl3 (ob:=.dT (putK kvs k z)) I (by rw [e]; exact True.intro) hs ⟨qo,hq⟩ ⟨hle,hd,_,(rel.put k eb r2).keeps fun c ys ec=>?_,qo,es,ep,hq,h2,h3,h4,h5⟩,r2,q⟩
   rw [zad (zn0 ec e (fun z=>nomatch z))]
   exact ec
def vwO (v d:Addr) : HO:=.ext fun h=>PySem.W.KdlKeysView h v d
theorem znH {P:Program} {w:World} {H:Hp} {h:Heap} {v d:Addr} (x:PySem.W.KdlKeysView h v d) : ObjOk P w H h v (vwO v d):=by
 refine zaa ?_; intro G_; obtain ⟨o,h1,h2,h3⟩:=id x
 exact ⟨x,⟨o,h1⟩,(by rintro h1 h2 ⟨o,a,b⟩ k; exact ⟨o,k o a,b⟩)⟩
def znY (td:TE) : TE:=fun σ H Q=>td σ H fun x H1=>∃ (d:Addr) (kvs:List (List Key × V)),x = .ref d ∧ Rd H1 d (.dT kvs) ∧ ∀ v,H1 v = none → Q (.ref v) (upd H1 v (vwO v d))
theorem zlR {o:Expr} {td:TE} {apos cpos:Pos} (ho:PE X o td) (hbase:attributeBase o "keys" X.env (eval o X.env) = eval o X.env) (hline:(apos.endLine == cpos.line) = true) : PE X (.Call (.Attribute o "keys" apos) [] [] cpos) (znY td):=by
 intro pins s σ H Q I h
 refine wpAny_Call_method0_late hbase hline (thn (ho pins s σ H _ I h) fun v s1 ⟨x,H1,I1,r1,d,kvs,e1,e,q⟩=>?_)
 subst e1
 cases r1
 refine zaa ?_; intro G_; obtain ⟨t1,t2,hd⟩:=znM I1 (.inr ⟨kvs,e⟩)
 refine ⟨"dict","dict.keys", PySem.F.plainAttrs_dict,PySem.F.slot_dict_keys,PySem.F.type_dict_keys,t1,t2,Calls.callWith_builtin rfl (PySem.evalArgs_none ?_)⟩
 refine wpAny_call_entry PySem.F.slot_dict_keys t1 PySem.F.entry_dict_keys ?_ (PySem.F.args_dict_keys_1 _)
 refine wpAny_bind ?_; unfold Builtin.Dict.noArgs
 refine wpAny_bind (wpAny_notOrdered_dict t1 ?_); show wpAny _ _ (pure d) _ _ s1
 refine wpAny_pure ?_; show wpAny _ _ (Builtin.Dict.showsAll d >>= _) _ _ s1
 unfold Builtin.Dict.showsAll; rw [if_neg (by rw [hd]; exact Bool.false_ne_true)]
 refine wpAny_bind (wpAny_pure (wpAny_bind (wpAny_newObj_type (wpAny_pure (exg _ rfl ?_)))))
 exact ⟨.ref s1.heap.objs.size,_,I1.laid (a:=s1.heap.objs.size) (o:=vwO s1.heap.objs.size d) (t':=s1.toks) (fun b u z=>Heap.get?_push_of_some _ z) (Nat.le_refl _) (znH ⟨_,Heap.get?_push_size _ rfl,rfl,rfl⟩),rfl,q _ (I1.hok.fresh (Nat.le_refl _))⟩
end
end L2
namespace L2
open PySem PySem.Spec PyProof.Rows
def intV:V → Int
 | .int i=>i
 | _=>0
def kfI (H:Hp) : V → List Int
 | .ref t=>(match H t with
  | some (.tup vs)=>vs.map intV
  | _=>[])
 | _=>[]
theorem zlf {H:Hp} {y:V} {k:List Int} (h:RowAt H y k) : kfI H y = k:=by
 refine zaa ?_; intro G_; obtain ⟨t,rfl,e⟩:=h
 show (match H t with | some (.tup vs)=>vs.map intV | _=>[]) = k
 rw [e]
 show (k.map V.int).map intV = k
 rw [List.map_map]
 have:intV ∘ V.int = id:=rfl
 rw [this,List.map_id]
theorem zcA (k:List Int) : (k.map Sum.inl:List Key).map kV = k.map V.int:=by rw [List.map_map]; rfl
section
variable {X:Cx} {pins:List (Addr × Obj)} {σ:St} {H:Hp} {s:Shared}
def ziK (H:Hp) (c d:Addr) : Prop:=c = d ∨ H c = some (vwO c d)
structure TDict (H:Hp) (d:Addr) (kvs:List (List Key × V)) (ks:List (List Int)) : Prop where
 at':Rd H d (.dT kvs)
 keys:kvs.map (·.1) = ks.map (·.map Sum.inl)
 some':∀ k ∈ ks,k ≠ []
theorem zif {d:Addr} {kvs:List (List Key × V)} {ks:List (List Int)} (I:Inv X pins σ H s) (T:TDict H d kvs ks) :
  ∃ (es:Array DictEntry) (ep:Nat) (xs:List V),Wr.RDict s.heap d es ep ∧ (d == sysModules) = false ∧ Vals xs (es.toList.map (·.key)) ∧ Paired (RowAt H) xs ks ∧ xs.map (kfI H) = ks ∧ KeysAt s.heap (es.toList.map (·.key)) (xs.map (kfI H)) ∧ es.size = kvs.length:=by
 refine zaa ?_; intro G_; obtain ⟨z,hd,xs,rel,o,es,ep,ho,hc,hdat,he,h6,h7⟩:=zhR I.hok T.at'
 have ek:es.toList.map (·.key) = xs.map fun x=>Value.ref x.2.1:=by
  rw [he,List.map_map]; rfl
 have pr:Paired (RowAt H) (xs.map fun x=>V.ref x.2.1) ks:=by
  have kk:=T.keys
  clear ek he T z h6 h7
  induction rel generalizing ks with
  | nil =>
   cases ks with
   | nil=>exact .nil
   | cons _ _=>cases kk
  | cons r _ ih =>
   cases ks with
   | nil=>cases kk
   | cons k ks =>
    simp only [List.map_cons,List.cons.injEq] at kk
    refine .cons ?_ (ih kk.2)
    refine zaa ?_; intro G_; obtain ⟨r1,r2,r3⟩:=r
    rw [kk.1,zcA] at r2
    exact (exg _ rfl r2)
 have vals:∀ l:List (List Key × Addr × Value),Vals (l.map fun x=>V.ref x.2.1) (l.map fun x=>Value.ref x.2.1):=fun l=>by
  induction l with
  | nil=>exact .nil
  | cons _ _ ih=>exact .cons rfl ih
 have em:∀ {ys:List V} {ks:List (List Int)},Paired (RowAt H) ys ks → ys.map (kfI H) = ks:=by
  intro ys ks p
  induction p with
  | nil=>rfl
  | cons r _ ih=>rw [List.map_cons,zlf r,ih]
 have keys:∀ {l:List (List Key × Addr × Value)} {ks:List (List Int)},Paired (RowAt H) (l.map fun x=>V.ref x.2.1) ks → (∀ k ∈ ks,k ≠ []) → KeysAt s.heap (l.map fun x=>Value.ref x.2.1) ks:=by
  intro l
  induction l with
  | nil=>intro ks p _; cases p; exact .nil
  | cons x l ih =>
   intro ks p ne
   cases p with
   | cons r t =>
    refine zaa ?_; intro G_; obtain ⟨t',e1,e2⟩:=r
    cases e1
    exact .cons (zk4 I e2 (ne _ List.mem_cons_self)) (ih t fun k hk=>ne k (List.mem_cons_of_mem _ hk))
 refine ⟨es,ep,xs.map fun x=>V.ref x.2.1,⟨o,ho,hc,hdat⟩,hd,by rw [ek]; exact vals xs,pr,em pr,by rw [ek,em pr]; exact keys pr T.some',?_⟩
 have:=congrArg List.length he
 rw [Array.length_toList,List.length_map] at this
 rw [this,← Paired.length rel]
def zk3:List V → Hp → VK → Prop:=fun xs H Q=>∃ (c d:Addr) (kvs:List (List Key × V)) (ks:List (List Int)),xs = [.ref c] ∧ TDict H d kvs ks ∧ ziK H c d ∧ kvs.length < 64 ∧
 ∀ (D:Addr) (ys:List V) (ks':List (List Int)),H D = none → Paired (RowAt H) ys ks' → ks'.Perm ks → (ks'.Pairwise fun a b=>lexI b a = false) → Q (.ref D) (upd H D (.lst ys))
theorem zej (hc:X.calm = true) : zcZ X (.builtin "sorted") zk3:=by
 rintro pins s σ H xs us Q I r ⟨c,d,kvs,ks,e,T,kd,h64,q⟩
 subst e
 refine zaa ?_; intro G_; obtain ⟨u,rfl,ru⟩:=Vals.one r
 cases ru
 refine zaa ?_; intro G_; obtain ⟨es,ep,xs,hm,hd,rv,pr,em,K,hsz⟩:=zif I T
 have fin:∀ (D:Addr) (h':Heap) (ys:List V) (ws:List Value) (e tk:Nat),(∀ b o,s.heap.get? b = some o → h'.get? b = some o) → s.heap.objs.size ≤ D → h'.get? D = some (seqObj "list" ws.toArray e) → Vals ys ws → ys.Perm xs → zaV (kfI H) ys → EP X pins σ Q (.ref D) { s with heap:=h',toks:=tk }:=by
  intro D h' ys ws e tk k hD hg v1 v2 v3
  have row:∀ y ∈ ys,RowAt H y (kfI H y):=fun y hy=>by
   have go:∀ {xs:List V} {ks:List (List Int)},Paired (RowAt H) xs ks → y ∈ xs → RowAt H y (kfI H y):=by
    intro xs ks p
    induction p with
    | nil=>intro z; cases z
    | cons r _ ih =>
     intro z
     rcases List.mem_cons.mp z with e | z
     ·subst e; rw [zlf r]; exact r
     ·exact ih z
   exact go pr (v2.mem_iff.mp hy)
  have pys:∀ l:List V,(∀ y ∈ l,RowAt H y (kfI H y)) → Paired (RowAt H) l (l.map (kfI H)):=fun l=>by
   induction l with
   | nil=>intro _; exact .nil
   | cons y l ih=>intro h; exact .cons (h y List.mem_cons_self) (ih fun z hz=>h z (List.mem_cons_of_mem _ hz))
  have hl:ys.length < 64:=by
   rw [v2.length_eq]
   have:=Vals.length rv
   rw [List.length_map] at this
   have e2:es.toList.length = es.size:=Array.length_toList
   lia
  refine ⟨.ref D,_,I.laid (a:=D) (o:=.lst ys) (t':=tk) (fun b u z=>k b u z) hD ⟨zcm hl,ws,e,v1,hg⟩,rfl,q D ys (ys.map (kfI H)) (I.hok.fresh hD) (pys ys row) ?_ (List.pairwise_map.mpr v3)⟩
  rw [← em]
  exact v2.map _
 have hlt:∀ b o,s.heap.get? b = some o → b < s.heap.objs.size:=fun b o e=>Heap.lt_size e
 rcases kd with rfl | hv
 ·refine zaa ?_; intro G_; obtain ⟨o,ho,_⟩:=id hm.ex
  refine zdB (T := "dict") (zgY I hc) (hlt _ _ ho) hm (fun h' k=>(hm.at fun o e=>k _ _ e:Wr.RDict ({ s with heap:=h' } : Shared).heap c es ep).typeIs) (by decide) (by decide) (fun h' Q' k hq=>?_) (fun h' Q' k hq=>?_) rv K (by lia) fin
  ·exact Wr.rd_iter (s:={ s with heap:=h' }) hd (hm.at fun o e=>k _ _ e) fun h'' st k2=>hq h'' st k2
  ·exact PySem.W.kdl_hint_dict (hm.at fun o e=>k _ _ e:Wr.RDict ({ s with heap:=h' } : Shared).heap c es ep).typeIs hq
 ·have hview:PySem.W.KdlKeysView s.heap c d:=(I.hok c _ hv).1
  refine zaa ?_; intro G_; obtain ⟨ov,hov,hcv,hdv⟩:=id hview
  have hv':∀ h':Heap,(∀ b o,s.heap.get? b = some o → h'.get? b = some o) → PySem.W.KdlKeysView h' c d:=fun h' k=>⟨ov,k _ _ hov,hcv,hdv⟩
  refine zdB (T := "dict_keys") (zgY I hc) (hlt _ _ hov) hm (fun h' k=>(hv' h' k:PySem.W.KdlKeysView ({ s with heap:=h' } : Shared).heap c d).typeIs) (by decide) (by decide) (fun h' Q' k hq=>?_) (fun h' Q' k hq=>?_) rv K (by lia) fin
  ·exact Wr.rd_iterK (s:={ s with heap:=h' }) (hv' h' k) (hm.at fun o e=>k _ _ e) fun h'' st k2=>hq h'' st k2
  ·exact PySem.W.kdl_hint_keys (hv' h' k:PySem.W.KdlKeysView ({ s with heap:=h' } : Shared).heap c d).typeIs hq
end
end L2
namespace L2
open PySem PySem.Spec PyProof.Rows
section
variable {X:Cx} {pins:List (Addr × Obj)} {σ:St} {H:Hp} {s:Shared}
theorem Inv.freeze {d:Addr} {kvs:List (List Key × V)} (I:Inv X pins σ H s) (h:H d = some (.dT kvs)) : ∃ o,s.heap.get? d = some o ∧ Inv X pins σ (upd H d (.frz o (.dT kvs))) s:=by
 refine zaa ?_; intro G_; obtain ⟨z,hd,xs,rel,o,es,ep,ho,r⟩:=I.hok d _ h
 refine ⟨o,ho,?_⟩
 exact I.write (x:=d) (e:=d) (o:=.frz o (.dT kvs)) (h':=s.heap) (t':=s.toks) (by rw [h]; exact True.intro) (.inl rfl) (fun b u _ q=>q) ⟨o,ho⟩
  ⟨ho,z,hd,xs,Paired.mapP rel fun p q ⟨a,b,c⟩=>⟨a,by rw [zad (zn0 b h (fun z=>nomatch z))]; exact b,c⟩,o,es,ep,ho,r⟩
def Itk (o:Obj) (d:Addr) (kvs:List (List Key × V)) : It :=
 ⟨fun i H=>H d = some (.frz o (.dT kvs)) ∧ i < kvs.length,fun i H v H'=>H' = H ∧ ∀ ks:List (List Int),kvs.map (·.1) = ks.map (·.map Sum.inl) → ∃ k,ks[i]? = some k ∧ RowAt H v k,fun i H=>H d = some (.frz o (.dT kvs)) ∧ kvs.length ≤ i⟩
theorem zgu {d:Addr} {o:Obj} {kvs:List (List Key × V)} (I:Inv X pins σ H s) (h:H d = some (.frz o (.dT kvs))) :
  ∃ (es:Array DictEntry) (ep:Nat) (xs:List (List Key × Addr × Value)),s.heap.get? d = some o ∧ o.ExactDict ∧ o.data = .dict es ep ∧ (d == sysModules) = false ∧ KT H kvs xs ∧ es.toList = xs.map (entryOfKey (tupleKind (zaC X.prog X.w))) ∧ es.size = kvs.length:=by
 refine zaa ?_; intro G_; obtain ⟨ho,z,hd,xs,rel,o',es,ep,ho',ex,dt,he,nd⟩:=I.hok d _ h
 rw [ho] at ho'
 cases ho'
 have e2:=congrArg List.length he
 rw [Array.length_toList,List.length_map] at e2
 exact ⟨es,ep,xs,ho,ex,dt,hd,rel,he,by rw [e2,← Paired.length rel]⟩
theorem ziq {P:Program} {w:World} {K:PySem.W.Frag} {tg:Expr} {o:Obj} {es:Array DictEntry} {ep:Nat} {kvs:List (List Key × V)} (d it:Addr) (hne:d ≠ it) (hx:o.ExactDict) (hdt:o.data = .dict es ep) :
  Turn P w K tg (Itk o d kvs) [it] it (fun i h=>h.IsKeyIter it d i es.size ep) where
 mem:=by simp
 obj:=fun i h st b hb=>by
  have e:b = it:=by simpa using hb
  subst e
  refine zaa ?_; intro G_; obtain ⟨o,e,c,d⟩:=st
  exact ⟨o,e,fun v z=>by rw [d] at z; cases z⟩
 keep:=fun i h h' st k=>st.at fun o e=>k it (by simp) o e
 item:=by
  intro X hP hw hK hc i pins s σ H E I hf st hg
  subst hP hw hK
  obtain ⟨hH,hi⟩:=hg
  refine zaa ?_; intro G_; obtain ⟨es',ep',xs,ho,_,dt,_,rel,he,hsz⟩:=zgu I hH
  rw [hdt] at dt
  cases dt
  refine zaa ?_; intro G_; obtain ⟨f0,f1,f2,f3,f4,f5⟩:=hf it (by simp)
  have hx':es[i]? = some es[i]:=by simp [hsz,hi]
  refine Wr.rd_next st ⟨o,ho,hx,hdt⟩ hx' fun h' st' sb=>?_
  have I1:Inv X pins σ H { s with heap:=h' }:=I.turned (t':=s.toks) (fun b o hb e=>(sb.2 b hb).trans e) f0 f1 f3 f4 f5
  refine zaa ?_; intro G_; obtain ⟨oi,e,c,dd⟩:=id st'
  have lx:i < xs.length:=by rw [← Paired.length rel]; exact hi
  have ekey:es[i].key = .ref xs[i].2.1:=by
   have q:=entry_at he i
   rw [hx'] at q
   have q2:xs[i]? = some xs[i]:=by simp [lx]
   rw [q2] at q
   rw [Option.some.inj q]
   rfl
  refine (exg _ rfl (zkh (s:={ s with heap:=h' }) e c dd (by decide) ⟨.ref xs[i].2.1,H,I1,by rw [ekey]; rfl,⟨rfl,fun ks hk=>?_⟩,st',fun b hb=>(hf b hb).1⟩))
  have lk:i < ks.length:=by
   have:=congrArg List.length hk
   rw [List.length_map,List.length_map] at this
   lia
  have hr:(fun (p:List Key × V) (q:List Key × Addr × Value)=>p.1 = q.1 ∧ H q.2.1 = some (.tup (p.1.map kV)) ∧ RelV p.2 q.2.2) (kvs.getD i ([],.non)) (xs.getD i ([],0,Value.none)):=zcg rel i _ _ hi
  have g1:kvs.getD i ([],.non) = kvs[i]:=by simp [hi]
  have g2:xs.getD i ([],0,Value.none) = xs[i]:=by simp [lx]
  rw [g1,g2] at hr
  have hk1:kvs[i].1 = ks[i].map Sum.inl:=by
   have h1:(kvs.map (·.1))[i]? = some kvs[i].1:=by simp [hi]
   rw [hk] at h1
   have h2:(ks.map (·.map Sum.inl) : List (List Key))[i]? = some (ks[i].map Sum.inl):=by simp [lk]
   rw [h2] at h1
   exact (Option.some.inj h1).symm
  refine ⟨ks[i],by simp [lk],xs[i].2.1,rfl,?_⟩
  have:=hr.2.1
  rw [hk1,zcA] at this
  exact this
 done:=by
  intro X hP hw hK hc i pins s σ H E I hf st hg
  subst hP hw hK
  obtain ⟨hH,hi⟩:=hg
  refine zaa ?_; intro G_; obtain ⟨es',ep',xs,ho,_,dt,_,rel,he,hsz⟩:=zgu I hH
  rw [hdt] at dt
  cases dt
  refine zaa ?_; intro G_; obtain ⟨f0,f1,f2,f3,f4,f5⟩:=hf it (by simp)
  exact Wr.rd_end (I.ok.hd hc) st ⟨o,ho,hx,hdt⟩ (by rw [hsz]; exact hi) fun h' eb=>⟨rfl,I.turned (t':=s.toks) (fun b o hb e=>eb b o hb e) f0 f1 f3 f4 f5⟩
 self:=fun _ _ _ _ _ st h=>wpAny_pyIter_keyiter st h
def znK (te:TE) : TI:=fun σ H R=>te σ H fun x H1=>∃ (c d:Addr) (kvs:List (List Key × V)),x = .ref c ∧ ziK H1 c d ∧
 ((H1 d = some (.dT kvs) ∧ ∀ o,R (Itk o d kvs) (upd H1 d (.frz o (.dT kvs)))) ∨ ∃ o,H1 d = some (.frz o (.dT kvs)) ∧ R (Itk o d kvs) H1)
theorem zmA {tg e:Expr} {te:TE} (he:PE X e te) : PI X tg e (znK te):=by
 intro pins s σ H R I h
 refine thn (he pins s σ H _ I h) fun v s1 ⟨x,H1,I1,r1,q1⟩=>?_
 refine zaa ?_; intro G_; obtain ⟨c,d,kvs,e,kd,q⟩:=q1
 subst e
 cases r1
 have kd':c = d ∨ PySem.W.KdlKeysView s1.heap c d:=by
  rcases kd with z | z
  ·exact .inl z
  ·have y:PySem.W.KdlKeysView s1.heap c d:=(I1.hok c _ z).1
   exact .inr y
 have core:∀ (o:Obj) (H2:Hp),Inv X pins σ H2 s1 → H2 d = some (.frz o (.dT kvs)) → R (Itk o d kvs) H2 → wpAny (model X.prog X.w) X.A (pyIter (.ref c)) (PIE X pins σ tg R) X.xe s1:=by
  intro o H2 I2 hH qr
  refine zaa ?_; intro G_; obtain ⟨es,ep,xs,ho,ex,dt,hd,rel,he,hsz⟩:=zgu I2 hH
  have ne:d ≠ s1.heap.objs.size:=Nat.ne_of_lt (Heap.lt_size ho)
  have fin:∀ h',h'.IsKeyIter s1.heap.objs.size d 0 es.size ep → (∀ b o,s1.heap.get? b = some o → h'.get? b = some o) → PIE X pins σ tg R (.ref s1.heap.objs.size) { s1 with heap:=h' }:=fun h' st k=>by
   refine ⟨s1.heap.objs.size,[s1.heap.objs.size],_,_,H2,rfl,I2.kept (t':=s1.toks) k,ziq d _ ne ex dt,st,fun b hb=>?_,qr⟩
   have e:b = s1.heap.objs.size:=by simpa using hb
   subst e
   exact I2.fpOk (Nat.le_refl _) (I2.hok.fresh (Nat.le_refl _))
  rcases kd' with rfl | hv
  ·exact Wr.rd_iter hd ⟨o,ho,ex,dt⟩ fin
  ·exact Wr.rd_iterK hv ⟨o,ho,ex,dt⟩ fin
 rcases q with ⟨hH,q⟩ | ⟨o,hH,q⟩
 ·refine zaa ?_; intro G_; obtain ⟨o,ho,I2⟩:=I1.freeze hH
  exact core o _ I2 zab (q o)
 ·exact core o H1 I1 hH q
end
section
variable {X:Cx} {e o:Expr} {te to:TE} {t:TA} {p pos apos cpos:Pos} {k:Nat} {target:Expr}
theorem zlp (ho:JE X o to) (hbase:attributeBase o "keys" X.env (eval o X.env) = eval o X.env:=by rfl) (hline:(apos.endLine == cpos.line) = true:=by rfl) : JE X (.Call (.Attribute o "keys" apos) [] [] cpos) (znY to):=⟨zlR ho.h hbase hline⟩
theorem zdv {e1 e2:Expr} (hr:Room k X.A) (ho:JE X o to) (ha:JA X [e1,e2] t) (hbase:attributeBase o "setdefault" X.env (eval o X.env) = eval o X.env:=by rfl) (hline:(apos.endLine == cpos.line) = true:=by rfl) :
  JE X (.Call (.Attribute o "setdefault" apos) [e1,e2] [] cpos) (tBM X.K "dict" zgp to t) :=
 ⟨zl0 PySem.F.plainAttrs_dict PySem.F.slot_dict_setdefault PySem.F.type_dict_setdefault (zii (by have:=hr.units; lia)) ho.h ha.h hbase (by rw [ha.hd.star,(Nsts.star ha.rs _)]; rfl) hline (ha.hd.star _ _) (ha.rs.no _ _)⟩
theorem zjT (hc:X.calm = true:=by rfl) : JC X (.builtin "sorted") zk3:=⟨zej hc⟩
theorem znJ (h:JE X e te) : JI X target e (znK te):=⟨zmA h.h⟩
theorem zdP (hr:Room k X.A) (ho:JE X o to) (hi:JE X e te) (hs:NoSl e:=by intro _ _; rfl) : JE X (.Subscript o e pos) (zhV to te):=⟨zme (by have:=hr.units; lia) ho.h hi.h hs⟩
theorem zgr:JE X (.Dict [] [] pos) zlh:=⟨zkE⟩
end
end L2
namespace Wr
end Wr
namespace Wr
open PySem SetTable PyProof.Rows
section
variable {prog:Program} {w:World} {A:Around} {E:Value → Shared → Prop}
end
section
variable {prog:Program} {w:World} {A:Around} {E:Value → Shared → Prop} {s:Shared}
end
end Wr
namespace L2
open PySem PySem.Spec PyProof.Rows
section
variable {X:Cx}
end
def dRow (r:List Int) : PyData:=.tuple (r.map PyData.int)
theorem ziY {K:PySem.W.Frag} {H:Hp} : ∀ ns:List Int,DenAll K H (ns.map V.int) (ns.map PyData.int)
 | []=>.nil
 | n :: ns=>.cons (.int n) (ziY ns)
theorem RowAt.den {K:PySem.W.Frag} {H:Hp} {v:V} {r:List Int} (h:RowAt H v r) : Den K H v (dRow r):=by
 refine zaa ?_; intro G_; obtain ⟨t,rfl,e⟩:=h
 exact .tup (SqT.of e) (ziY r)
theorem zfR:∀ (l m:List Int),PyData.eqvAll (l.map PyData.int) (m.map PyData.int) = decide (l = m)
 | [],[]=>by simp [PyData.eqvAll]
 | [],_ :: _=>by simp [PyData.eqvAll]
 | _ :: _,[]=>by simp [PyData.eqvAll]
 | x :: l,y :: m=>by
  simp only [List.map_cons,PyData.eqvAll,zfR l m,PyData.eqv]
  by_cases h1:x = y <;> by_cases h3:l = m <;> simp [h1,h3]
theorem zex:∀ ns:List Int,PyData.canLayAll0 (ns.map PyData.int) = true ∧ PyData.depthAll (ns.map PyData.int) = 0
 | []=>by simp [PyData.canLayAll0,PyData.depthAll]
 | n :: ns=>by
  have ih:=zex ns
  simp [PyData.canLayAll0,PyData.depthAll,PyData.canLay0,PyData.depth,ih.1,ih.2]
end L2
namespace Wr
def bnds (l:List Stt) : List Int:=l.flatMap fun s=>s.1.toList ++ s.2.toList
def fe:List Stt → Bool
 | (none,_) :: _=>true
 | _=>false
def par (s:Bool) (bs:List Int) (m:Int) : Bool:=bs.foldl (fun x b=>x != decide (b ≤ m)) s
theorem zct {m:Int} : ∀ {bs:List Int} {s:Bool},(∀ b ∈ bs,m < b) → par s bs m = s
 | [],_,_=>rfl
 | b :: bs,s,h=>by
  have hb:=h b List.mem_cons_self
  have:decide (b ≤ m) = false:=decide_eq_false (by lia)
  show par (s != decide (b ≤ m)) bs m = s
  rw [this,zct fun c hc=>h c (List.mem_cons_of_mem _ hc)]
  cases s <;> rfl
theorem zcO (a b:Option Int) (r:List Stt) : bnds ((a,b) :: r) = a.toList ++ (b.toList ++ bnds r):=by
 simp [bnds]
theorem zeF {p:Stt} {r:List Stt} {e:Int} (h:Can (p :: r)) (he:p.2 = some e) : ∀ b ∈ bnds r,e < b:=by
 intro b hb
 obtain ⟨s,hs,hx⟩:=List.mem_flatMap.mp hb
 obtain ⟨e',c,h1,h2,h3⟩:=(List.pairwise_cons.mp h.2).1 s hs
 rw [he] at h1
 cases h1
 rcases List.mem_append.mp hx with z | z
 ·rw [h2] at z
  have:b = c:=by simpa using z
  lia
 ·cases q:s.2 with
  | none=>rw [q] at z; simp at z
  | some d =>
   rw [q] at z
   have:b = d:=by simpa using z
   have:=h.1 s (List.mem_cons_of_mem _ hs) c d h2 q
   lia
theorem tail_nil {p:Stt} {r:List Stt} (h:Can (p :: r)) (he:p.2 = none) : r = []:=by
 cases r with
 | nil=>rfl
 | cons q r =>
  obtain ⟨b,c,h1,_⟩:=(List.pairwise_cons.mp h.2).1 q List.mem_cons_self
  rw [he] at h1
  cases h1
theorem zlK {p:Stt} {r:List Stt} (h:Can (p :: r)) : fe r = false:=by
 cases r with
 | nil=>rfl
 | cons q r =>
  obtain ⟨b,c,_,h2,_⟩:=(List.pairwise_cons.mp h.2).1 q List.mem_cons_self
  obtain ⟨x,y⟩:=q
  have h2':x = some c:=h2
  rw [h2']
  rfl
theorem zeo:∀ {l:List Stt},Can l → ∀ m,zag m l = par (fe l) (bnds l) m
 | [],_,_=>rfl
 | (a, b) :: r, h, m => by
  have ih:=zeo h.tail m
  rw [zlK h] at ih
  have hr:zag m ((a,b) :: r) = (inS m (a,b) || zag m r):=by simp [zag]
  rw [hr,zcO]
  cases b with
  | none =>
   have er:=tail_nil h rfl
   subst er
   cases a with
   | none=>simp [inS,zag,fe,bnds,par]
   | some a=>simp [inS,zag,fe,bnds,par]
  | some e =>
   have ab:∀ c ∈ bnds r,e < c:=zeF h rfl
   cases a with
   | none =>
    show _ = par (true != decide (e ≤ m)) (bnds r) m
    by_cases hm:e ≤ m
    ·rw [decide_eq_true hm]
     have:inS m (none,some e) = false:=by simp [inS]; lia
     rw [this,Bool.false_or,ih]
     rfl
    ·rw [decide_eq_false hm,zct fun c hc=>by have:=ab c hc; lia]
     have:inS m (none,some e) = true:=by simp [inS]; lia
     rw [this]
     rfl
   | some a =>
    have ae:=h.1 _ List.mem_cons_self a e rfl rfl
    show _ = par ((false != decide (a ≤ m)) != decide (e ≤ m)) (bnds r) m
    by_cases ha:a ≤ m
    ·by_cases hm:e ≤ m
     ·rw [decide_eq_true ha,decide_eq_true hm]
      have:inS m (some a,some e) = false:=by simp [inS]; lia
      rw [this,Bool.false_or,ih]
      rfl
     ·rw [decide_eq_true ha,decide_eq_false hm,zct fun c hc=>by have:=ab c hc; lia]
      have:inS m (some a,some e) = true:=by simp [inS]; lia
      rw [this]
      rfl
    ·have hm : ¬ e ≤ m:=by lia
     have low:∀ c ∈ bnds r,m < c:=fun c hc=>by have:=ab c hc; lia
     rw [decide_eq_false ha,decide_eq_false hm,zct low]
     have:inS m (some a,some e) = false:=by simp [inS]; lia
     rw [this,Bool.false_or,ih,zct low]
     rfl
theorem zbw:∀ {l:List Stt},Can l → Inc (bnds l)
 | [],_=>List.Pairwise.nil
 | (a, b) :: r, h => by
  have ih:=zbw h.tail
  rw [zcO]
  cases b with
  | none =>
   have er:=tail_nil h rfl
   subst er
   cases a with
   | none=>exact List.Pairwise.nil
   | some a=>exact List.pairwise_singleton _ _
  | some e =>
   have ab:∀ c ∈ bnds r,e < c:=zeF h rfl
   have i2:Inc (e :: bnds r):=List.pairwise_cons.mpr ⟨ab,ih⟩
   cases a with
   | none=>exact i2
   | some a =>
    have ae:=h.1 _ List.mem_cons_self a e rfl rfl
    refine List.pairwise_cons.mpr ⟨fun c hc=>?_,i2⟩
    rcases List.mem_cons.mp hc with z | z
    ·lia
    ·have:=ab c z; lia
theorem zkt (l:List Stt) : (bnds l).length ≤ 2 * l.length:=by
 induction l with
 | nil=>simp [bnds]
 | cons s r ih =>
  obtain ⟨a,b⟩:=s
  rw [zcO]
  cases a <;> cases b <;> simp <;> lia
theorem zh8:∀ {l r:List Int},Inc l → Inc r → (∀ x,x ∈ l ↔ x ∈ r) → l = r
 | [],[],_,_,_=>rfl
 | [],y :: r,_,_,h=>by have:=(h y).mpr List.mem_cons_self; cases this
 | x :: l,[],_,_,h=>by have:=(h x).mp List.mem_cons_self; cases this
 | x :: l, y :: r, hl, hr, h => by
  obtain ⟨l1,l2⟩:=List.pairwise_cons.mp hl
  obtain ⟨r1,r2⟩:=List.pairwise_cons.mp hr
  have e:x = y:=by
   rcases List.mem_cons.mp ((h x).mp List.mem_cons_self) with z | z
   ·exact z
   ·rcases List.mem_cons.mp ((h y).mpr List.mem_cons_self) with w | w
    ·exact w.symm
    ·have:=r1 x z; have:=l1 y w; lia
  subst e
  congr 1
  refine zh8 l2 r2 fun z=>?_
  constructor
  ·intro hz
   rcases List.mem_cons.mp ((h z).mp (List.mem_cons_of_mem _ hz)) with w | w
   ·have:=l1 z hz; lia
   ·exact w
  ·intro hz
   rcases List.mem_cons.mp ((h z).mpr (List.mem_cons_of_mem _ hz)) with w | w
   ·have:=r1 z hz; lia
   ·exact w
def parP (s:Bool) (p:Int → Bool) (B:List Int) (m:Int) : Bool:=B.foldl (fun x b=>x != (p b && decide (b ≤ m))) s
def endP (s:Bool) (p:Int → Bool) (B:List Int) : Bool:=B.foldl (fun x b=>x != p b) s
theorem zdS (p:Int → Bool) (m:Int) : ∀ (B:List Int) (s:Bool),parP s p B m = par s (B.filter p) m
 | [],_=>rfl
 | b :: B, s => by
  show parP (s != (p b && decide (b ≤ m))) p B m = _
  rw [zdS p m B,List.filter_cons]
  cases h:p b with
  | true=>rfl
  | false =>
   rw [Bool.false_and]
   have:(s != false) = s:=by cases s <;> rfl
   rw [this]
   rfl
theorem zg8 {bs B:List Int} (h1:Inc bs) (h2:Inc B) (hs:∀ b ∈ bs,b ∈ B) (s:Bool) (m:Int) : parP s (fun b=>decide (b ∈ bs)) B m = par s bs m:=by
 rw [zdS]
 congr 1
 refine zh8 (h2.sublist List.filter_sublist) h1 fun x=>?_
 rw [List.mem_filter]
 constructor
 ·intro h; exact of_decide_eq_true h.2
 ·intro h; exact ⟨hs x h,decide_eq_true h⟩
theorem zcc (p:Int → Bool) (m:Int) : ∀ (B:List Int) (s:Bool),(∀ b ∈ B,b ≤ m) → parP s p B m = endP s p B
 | [],_,_=>rfl
 | b :: B,s,h=>by
  show parP (s != (p b && decide (b ≤ m))) p B m = endP (s != p b) p B
  rw [decide_eq_true (h b List.mem_cons_self),Bool.and_true]
  exact zcc p m B _ fun c hc=>h c (List.mem_cons_of_mem _ hc)
theorem zfI (s:Bool) (p:Int → Bool) (B:List Int) (b m:Int) : parP s p (B ++ [b]) m = (parP s p B m != (p b && decide (b ≤ m))):=by
 unfold parP; rw [List.foldl_append]; rfl
theorem zfq (s:Bool) (p:Int → Bool) (B:List Int) (b:Int) : endP s p (B ++ [b]) = (endP s p B != p b):=by
 unfold endP; rw [List.foldl_append]; rfl
structure Sweep (fw:Bool → Bool → Bool) (s1 s2:Bool) (p1 p2:Int → Bool) (done:List Int) (start:Option Int) (acc:List Stt) : Prop where
 can:Can (acc ++ if fw (endP s1 p1 done) (endP s2 p2 done) then [(start,none)] else [])
 eq:∀ m,zag m (acc ++ if fw (endP s1 p1 done) (endP s2 p2 done) then [(start,none)] else []) = fw (parP s1 p1 done m) (parP s2 p2 done m)
 low:∀ b,(∀ d ∈ done,d < b) → (∀ s ∈ acc,∃ e,s.2 = some e ∧ e < b) ∧ (∀ a,start = some a → a < b)
theorem zbi (m:Int) (s:Stt) : zag m [s] = inS m s:=by simp [zag]
theorem zgO (fw:Bool → Bool → Bool) (s1 s2:Bool) (p1 p2:Int → Bool) : Sweep fw s1 s2 p1 p2 [] none []:=by
 refine ⟨?_,fun m=>?_,fun b _=>⟨(fun s h=>nomatch h),(fun a h=>nomatch h)⟩⟩
 ·show Can ([] ++ if fw s1 s2 then [(none,none)] else [])
  cases fw s1 s2 with
  | false=>exact ⟨(fun s h=>nomatch h),List.Pairwise.nil⟩
  | true=>exact ⟨(fun s h a b e1 e2=>by rw [List.mem_singleton.mp h] at e1; cases e1),List.pairwise_singleton _ _⟩
 ·show zag m ([] ++ if fw s1 s2 then [(none,none)] else []) = fw s1 s2
  cases fw s1 s2 <;> rfl
theorem zj0 {l:List Stt} {s:Stt} (h:Can (l ++ [s])) : Can l:=⟨fun q hq=>h.1 q (List.mem_append_left _ hq),(List.pairwise_append.mp h.2).1⟩
theorem zho {l:List Stt} {s:Stt} (h:Can l) (o:okS s) (a:∀ q ∈ l,Apart q s) : Can (l ++ [s]) :=
  ⟨fun q hq=>(List.mem_append.mp hq).elim (h.1 q) fun z=>by rw [List.mem_singleton.mp z]; exact o,
   List.pairwise_append.mpr ⟨h.2,List.pairwise_singleton _ _,fun q hq z hz=>by rw [List.mem_singleton.mp hz]; exact a q hq⟩⟩
section
variable {fw:Bool → Bool → Bool} {s1 s2:Bool} {p1 p2:Int → Bool} {done:List Int} {start:Option Int} {acc:List Stt} {b:Int}
theorem zcv (h:∀ d ∈ done,d < b) (m:Int) (hm:b ≤ m) : fw (parP s1 p1 (done ++ [b]) m) (parP s2 p2 (done ++ [b]) m) = fw (endP s1 p1 (done ++ [b])) (endP s2 p2 (done ++ [b])):=by
 have hl:∀ d ∈ done ++ [b],d ≤ m:=fun d hd=>by
  rcases List.mem_append.mp hd with z | z
  ·have:=h d z; lia
  ·have:d = b:=by simpa using z
   lia
 rw [zcc _ _ _ _ hl,zcc _ _ _ _ hl]
theorem zb7 (m:Int) (hm:m < b) : fw (parP s1 p1 (done ++ [b]) m) (parP s2 p2 (done ++ [b]) m) = fw (parP s1 p1 done m) (parP s2 p2 done m):=by
 have e:decide (b ≤ m) = false:=decide_eq_false (by lia)
 have x:∀ c:Bool,(c != false) = c:=fun c=>by cases c <;> rfl
 rw [zfI,zfI,e,Bool.and_false,Bool.and_false,x,x]
theorem zkD (S:Sweep fw s1 s2 p1 p2 done start acc) (h:∀ d ∈ done,d < b) (m:Int) (hm:b ≤ m) : zag m acc = false:=by
 cases e:zag m acc with
 | false=>rfl
 | true =>
  obtain ⟨s,hs,hi⟩:=zbh.mp e
  obtain ⟨x,e1,e2⟩:=(S.low b h).1 s hs
  have:=(zbn.mp hi).2 x e1
  lia
theorem zdy (S:Sweep fw s1 s2 p1 p2 done start acc) (h:∀ d ∈ done,d < b) : ∀ c,(∀ d ∈ done ++ [b],d < c) → (∀ s ∈ acc,∃ e,s.2 = some e ∧ e < c) ∧ (∀ a,start = some a → a < c):=fun c hc =>
 S.low c fun d hd=>hc d (List.mem_append_left _ hd)
theorem zhu (S:Sweep fw s1 s2 p1 p2 done start acc) (h:∀ d ∈ done,d < b) (e:fw (endP s1 p1 (done ++ [b])) (endP s2 p2 (done ++ [b])) = fw (endP s1 p1 done) (endP s2 p2 done)) : Sweep fw s1 s2 p1 p2 (done ++ [b]) start acc:=by
 refine ⟨by rw [e]; exact S.can,fun m=>?_,zdy S h⟩
 by_cases hm:m < b
 ·rw [zb7 (fw:=fw) (s1:=s1) (s2:=s2) (p1:=p1) (p2:=p2) (done:=done) m hm,e]; exact S.eq m
 ·have hl:∀ d ∈ done,d ≤ m:=fun d hd=>by have:=h d hd; lia
  rw [zcv (fw:=fw) (s1:=s1) (s2:=s2) (p1:=p1) (p2:=p2) h m (by lia),e,S.eq m,zcc _ _ _ _ hl,zcc _ _ _ _ hl]
theorem zit (S:Sweep fw s1 s2 p1 p2 done start acc) (h:∀ d ∈ done,d < b) (i:fw (endP s1 p1 done) (endP s2 p2 done) = true) (o:fw (endP s1 p1 (done ++ [b])) (endP s2 p2 (done ++ [b])) = false) : Sweep fw s1 s2 p1 p2 (done ++ [b]) start (acc ++ [(start,some b)]):=by
 have c:=S.can
 rw [i,if_pos rfl] at c
 have st:=(S.low b h).2
 have oks:okS (start,some b):=fun x y e1 e2=>by
  have e2':b = y:=Option.some.inj e2
  have:=st x e1
  lia
 refine ⟨?_,fun m=>?_,fun d hd=>⟨fun s hs=>?_,fun a ha=>?_⟩⟩
 ·rw [o,if_neg Bool.false_ne_true,List.append_nil]
  refine zho (zj0 c) oks fun q hq=>?_
  obtain ⟨x,y,e1,e2,e3⟩:=(List.pairwise_append.mp c.2).2.2 q hq (start,none) (by simp)
  exact ⟨x,y,e1,e2,e3⟩
 ·rw [o,if_neg Bool.false_ne_true,List.append_nil,zaE,zbi]
  by_cases hm:m < b
  ·have q:=S.eq m
   rw [i,if_pos rfl,zaE,zbi] at q
   rw [zb7 (fw:=fw) (s1:=s1) (s2:=s2) (p1:=p1) (p2:=p2) (done:=done) m hm,← q]
   congr 1
   cases start <;> simp [inS,hm]
  ·rw [zcv (fw:=fw) (s1:=s1) (s2:=s2) (p1:=p1) (p2:=p2) h m (by lia),o,zkD S h m (by lia),Bool.false_or]
   simp [inS,hm]
 ·have hb:b < d:=hd b (by simp)
  rcases List.mem_append.mp hs with z | z
  ·exact (zdy S h d hd).1 s z
  ·rw [List.mem_singleton.mp z]; exact ⟨b,rfl,hb⟩
 ·exact (zdy S h d hd).2 a ha
theorem zkI (S:Sweep fw s1 s2 p1 p2 done start acc) (h:∀ d ∈ done,d < b) (i:fw (endP s1 p1 done) (endP s2 p2 done) = false) (o:fw (endP s1 p1 (done ++ [b])) (endP s2 p2 (done ++ [b])) = true) : Sweep fw s1 s2 p1 p2 (done ++ [b]) (some b) acc:=by
 have c:=S.can
 rw [i,if_neg Bool.false_ne_true,List.append_nil] at c
 refine ⟨?_,fun m=>?_,fun d hd=>⟨(zdy S h d hd).1,fun a ha=>?_⟩⟩
 ·rw [o,if_pos rfl]
  refine zho c (fun x y _ e2=>nomatch e2) fun q hq=>?_
  obtain ⟨e,e1,e2⟩:=(S.low b h).1 q hq
  exact ⟨e,b,e1,rfl,e2⟩
 ·rw [o,if_pos rfl,zaE,zbi]
  by_cases hm:m < b
  ·have q:=S.eq m
   rw [i,if_neg Bool.false_ne_true,List.append_nil] at q
   rw [zb7 (fw:=fw) (s1:=s1) (s2:=s2) (p1:=p1) (p2:=p2) (done:=done) m hm,← q]
   have:inS m (some b,none) = false:=by simp [inS]; lia
   rw [this,Bool.or_false]
  ·rw [zcv (fw:=fw) (s1:=s1) (s2:=s2) (p1:=p1) (p2:=p2) h m (by lia),o]
   have:inS m (some b,none) = true:=by simp [inS]; lia
   rw [this,Bool.or_true]
 ·have ha':b = a:=Option.some.inj ha
  have:=hd b (by simp)
  lia
end
theorem zjg {fw:Bool → Bool → Bool} {l r:List Stt} {B:List Int} {start:Option Int} {acc:List Stt} (hl:Can l) (hr:Can r) (hB:Inc B) (h1:∀ b ∈ bnds l,b ∈ B) (h2:∀ b ∈ bnds r,b ∈ B)
  (S:Sweep fw (fe l) (fe r) (fun b=>decide (b ∈ bnds l)) (fun b=>decide (b ∈ bnds r)) B start acc) (m:Int) :
  zag m (acc ++ if fw (endP (fe l) (fun b=>decide (b ∈ bnds l)) B) (endP (fe r) (fun b=>decide (b ∈ bnds r)) B) then [(start,none)] else []) = fw (zag m l) (zag m r):=by
 rw [S.eq m,zg8 (zbw hl) hB h1,zg8 (zbw hr) hB h2,zeo hl,zeo hr]
end Wr
namespace Prf
open PySem L2 Wr
theorem take_snoc {α:Type} {l:List α} {i:Nat} {x:α} (h:l[i]? = some x) : l.take (i + 1) = l.take i ++ [x]:=by rw [List.take_add_one,h]; rfl
theorem zgq {l r:List Stt} (h:l.Perm r) (m:Int) : zag m l = zag m r:=by
 rw [Bool.eq_iff_iff,zbh,zbh]
 constructor
 ·rintro ⟨s,hs,q⟩; exact ⟨s,h.mem_iff.mp hs,q⟩
 ·rintro ⟨s,hs,q⟩; exact ⟨s,h.mem_iff.mpr hs,q⟩
theorem zha {α β:Type} {f:α → β} {l:List α} {i:Nat} {x:β} (h:(l.map f)[i]? = some x) : ∃ a,l[i]? = some a ∧ x = f a:=by
 rw [List.getElem?_map] at h
 cases e:l[i]? with
 | none=>rw [e] at h; cases h
 | some a=>rw [e] at h; exact ⟨a,rfl,(Option.some.inj h).symm⟩
theorem zi9 {ss:List Stt} {i:Nat} {q:Stt} (h:ss[i]? = some q) : bnds (ss.take (i + 1)) = bnds (ss.take i) ++ (q.1.toList ++ q.2.toList):=by
 rw [take_snoc h]; unfold bnds; rw [List.flatMap_append]; simp
theorem zeR (ss:List Stt) (i:Nat) : (bnds (ss.take i)).length ≤ 2 * ss.length:=by
 have:=zkt (ss.take i)
 rw [List.length_take] at this
 lia
theorem len_sub:∀ {l g:List Int},l.Nodup → (∀ x ∈ l,x ∈ g) → l.length ≤ g.length
 | [],_,_,_=>Nat.zero_le _
 | x :: l,g,nd,h=>by
  have hx:=h x List.mem_cons_self
  obtain ⟨n1,n2⟩:=List.nodup_cons.mp nd
  have:=len_sub (l:=l) (g:=g.erase x) n2 fun y hy=>(List.mem_erase_of_ne (fun (e:y = x)=>n1 (by rw [← e]; exact hy))).mpr (h y (List.mem_cons_of_mem _ hy))
  rw [List.length_erase_of_mem hx] at this
  have:=List.length_pos_of_mem hx
  simp only [List.length_cons]
  lia
theorem ze0:∀ {bs:List Int} {s:Bool} {b:Int},Inc bs → b ∈ bs → par s bs b ≠ par s bs (b - 1)
 | x :: bs, s, b, hi, hb => by
  obtain ⟨h1,h2⟩:=List.pairwise_cons.mp hi
  rcases List.mem_cons.mp hb with rfl | hm
  ·show par (s != decide (b ≤ b)) bs b ≠ par (s != decide (b ≤ b - 1)) bs (b - 1)
   rw [decide_eq_true (Int.le_refl b),decide_eq_false (by lia),zct h1,zct fun c hc=>by have:=h1 c hc; lia]
   cases s <;> decide
  ·have:=h1 b hm
   show par (s != decide (x ≤ b)) bs b ≠ par (s != decide (x ≤ b - 1)) bs (b - 1)
   rw [decide_eq_true (by lia),decide_eq_true (show x ≤ b - 1 by lia)]
   exact ze0 h2 hm
theorem zhT {g:List Int} {b:Int} (h:b ∉ g) : zan g b = zan g (b - 1):=by
 unfold zan
 congr 1
 refine List.filter_congr fun x hx=>?_
 rw [Bool.eq_iff_iff,decide_eq_true_iff,decide_eq_true_iff]
 have:x ≠ b:=fun e=>h (e ▸ hx)
 lia
theorem zfE {g:List Int} {l:List Stt} {φ:Nat → Bool} (hl:Can l) (h:∀ m,zag m l = φ (zan g m)) : ∀ b ∈ bnds l,b ∈ g:=by
 intro b hb
 by_cases hg:b ∈ g
 ·exact hg
 ·have e1:=h b
  have e2:=h (b - 1)
  rw [zhT hg] at e1
  rw [zeo hl] at e1 e2
  exact absurd (e1.trans e2.symm) (ze0 (zbw hl) hb)
end Prf
namespace L2
open PySem PySem.Spec PyProof.Rows
theorem ObjOk.at {P:Program} {w:World} {H:Hp} {h:Heap} {a:Addr} {o:HO} (x:ObjOk P w H h a o) : ∃ u,h.get? a = some u:=by
 cases o with
 | lst xs=>obtain ⟨_,_,_,_,e⟩:=x; exact ⟨_,e⟩
 | tup xs=>obtain ⟨_,_,_,o,e,_⟩:=x; exact ⟨_,e⟩
 | dK kvs=>obtain ⟨_,_,_,_,o,_,_,e,_⟩:=x; exact ⟨_,e⟩
 | dT kvs=>obtain ⟨_,_,_,_,o,_,_,e,_⟩:=x; exact ⟨_,e⟩
 | set S n=>obtain ⟨o,_,_,_,e,_⟩:=x; exact ⟨_,e⟩
 | ins C dx fs=>obtain ⟨_,_,_,e,_⟩:=x; exact ⟨_,e⟩
 | own y=>obtain ⟨_,e⟩:=x; exact ⟨_,e⟩
 | xd fs=>obtain ⟨_,⟨_,_,_,e,_⟩,_⟩:=x; exact ⟨_,e⟩
 | rng lo hi=>obtain ⟨_,_,_,e⟩:=x; exact ⟨_,e⟩
 | frz ob u=>obtain ⟨e,_⟩:=x; exact ⟨_,e⟩
 | tbl ps=>exact ⟨_,(show h.get? a = some _ from x)⟩
 | met f y=>exact ⟨_,(show h.get? a = some _ from x)⟩
 | ext φ=>obtain ⟨_,⟨_,e⟩,_⟩:=x; exact ⟨_,e⟩
def Cov (l:List Env) (H:Hp) (h0 h B:Heap) : Prop:=∀ b o,h.get? b = some o → (H b ≠ none ∨ ∃ u,h0.get? b = some u) → b ∉ frs l → B.get? b = some o
def Fly (l:List Env) (a:Addr) (cls:Value) (H:Hp) (h0 h:Heap) : Prop:=∃ (a0:Value) (B:Heap),Heap.FlyingW B l a cls a0 h ∧ Cov l H h0 h B
def CXe (P:Program) (w:World) : CXT:=fun outer H s E e s' =>
 ∃ a cls H',e = Value.ref a ∧ s'.os = s.os ∧ AllBare s'.gens ∧ Un (frs outer) [] H H' s.heap s'.heap ∧ HOk P w H' s'.heap ∧ Fly outer a cls H' s.heap s'.heap ∧ E cls none H'
section
variable {P:Program} {w:World} {l:List Env} {H H':Hp} {h0 h h5 B:Heap}
theorem Cov.step (u:Un (frs l) [] H H' h0 h) (ok:HOk P w H' h) (cov:Cov l H' h0 h B) (st:B.StaysIn h5) : Cov l H' h0 h5 B:=fun b o e q n=>by
 have hx:∃ v,h.get? b = some v:=by
  rcases q with q | ⟨v,q⟩
  ·cases z:H' b with
   | none=>exact absurd z q
   | some y=>exact (ok b y z).at
  ·exact u.there b v q (by simp)
 obtain ⟨v,hv⟩:=hx
 have hB:=cov b v hv q n
 rw [st b v hB] at e
 cases e
 exact hB
theorem Cov.un (u:Un (frs l) [] H H' h0 h) (cov:Cov l H' h0 h B) (st:B.StaysIn h5) (up:h.UpToSlots h5) (nf:∀ b ∈ frs l,∃ o,h.get? b = some o ∧ ∀ vs,o.data ≠ .fields vs) : Un (frs l) [] H H' h0 h5 where
 keep:=fun b o e n hb hx=>st b o (cov b o (u.keep b o e n hb hx) (.inr ⟨o,e⟩) hb)
 slot:=fun b o e n hb hx=>by
  obtain ⟨sl,q⟩:=u.slot b o e n hb hx
  refine zaa ?_; intro G_; obtain ⟨o',q',nf'⟩:=nf b hb
  rw [q] at q'; cases q'
  obtain ⟨sl',q2⟩:=up b _ q nf'
  exact ⟨sl',q2⟩
 free:=u.free
 there:=fun b o e hx=>by
  obtain ⟨o',q⟩:=u.there b o e hx
  by_cases hb:b ∈ frs l
  ·refine zaa ?_; intro G_; obtain ⟨o2,q',nf'⟩:=nf b hb
   obtain ⟨sl',q2⟩:=up b _ q' nf'
   exact ⟨_,q2⟩
  ·exact ⟨o',st b o' (cov b o' q (.inr ⟨o,e⟩) hb)⟩
 tups:=u.tups
 frzs:=u.frzs
 tbls:=u.tbls
theorem Cov.hok (ok:HOk P w H' h) (cov:Cov l H' h0 h B) (st:B.StaysIn h5) (fr:∀ b ∈ frs l,H' b = none) : HOk P w H' h5:=fun b o e=>by
 refine (ok b o e).stay (fun c v hc q=>?_) (fun _ q=>q) fun _ _ q=>q
 have hn:H' c ≠ none:=by
  rcases hc with rfl | hc
  ·rw [e]; simp
  ·rw [hc]; simp
 exact st c v (cov c v q (.inl hn) fun z=>hn (fr c z))
end
section
variable {X:Cx} {pins:List (Addr × Obj)} {σ:St} {H:Hp} {s:Shared} {B h5:Heap}
theorem Inv.leave (I:Inv X pins σ H s) (hst:X.stack = X.env :: X.outer) (hf:X.env.frame = some X.env.locals) (hex:X.ex = []) (cov:Cov X.stack H X.s₀.heap s.heap B) (st:B.StaysIn h5) (up:s.heap.UpToSlots h5) :
  Un X.fs [] X.H₀ H X.s₀.heap h5 ∧ HOk X.prog X.w H h5 ∧ Cov X.outer H X.s₀.heap h5 B:=by
 have ub:Un X.fs [] X.H₀ H X.s₀.heap s.heap:=by have:=I.base; rw [hex] at this; exact this
 have cov':Cov X.outer H X.s₀.heap s.heap B:=fun b o e q n=>cov b o e q fun z=>by
  rw [hst] at z
  unfold frs at z
  rw [List.filterMap_cons,hf] at z
  rcases List.mem_cons.mp z with z | z
  ·subst z
   rcases q with q | ⟨v,q⟩
   ·exact q I.free
   ·exact absurd (Heap.lt_size q) (Nat.not_lt.mpr I.ok.above)
  ·exact n z
 have hfr:∀ b ∈ frs X.outer,H b = none:=fun b hb=>I.stkFree b (by rw [hst]; unfold frs; rw [List.filterMap_cons,hf]; exact List.mem_cons_of_mem _ hb)
 refine ⟨Cov.un ub cov' st up fun b hb=>?_,Cov.hok I.hok cov' st hfr,Cov.step ub I.hok cov' st⟩
 refine zaa ?_; intro G_; obtain ⟨_,o,ho,hn⟩:=I.stack.mem (b:=b) (by rw [hst,List.filterMap_cons,hf]; exact List.mem_cons_of_mem _ hb)
 exact ⟨o,ho,hn⟩
end
section
variable {P:Program} {w:World} {K:PySem.W.Frag} {mg:Str → Option Value} {base:Heap} {N:List Str} {qual:Str} {scope:Scope} {f:Addr} {cd:Value} {A:Around} {outer:List Env} {s:Shared} {H:Hp} {E:XK}
theorem zmr {pins:List (Addr × Obj)} {σ:St} {H1:Hp} {s1:Shared} {h':Heap} {a:Addr} {cls:Value} {vs:List Value} (I:Inv (cxOf (CXe P w) P w K mg base N qual scope f cd A outer s H E) pins σ H1 s1)
  (hx:Heap.MadeExcOf s1.heap h' a cls vs) (hE:E cls none H1) : (cxOf (CXe P w) P w K mg base N qual scope f cd A outer s H E).xe (.ref a) { s1 with heap:=h' }:=by
 have hl:=I.stack
 refine wpAny_leaves_madeW (base:=PySem.W.hideAll s1.heap (frs (cxOf (CXe P w) P w K mg base N qual scope f cd A outer s H E).stack)) (h:=s1.heap) I.ok.frames rfl (fun b o e=>PySem.W.of_hideAll _ e)
  (PySem.W.funFrames_hide hl fun env he a hf=>List.mem_filterMap.mpr ⟨env,he,hf⟩) hx fun h2 t x1 x2 x3 x4=>?_
 have cov:Cov (cxOf (CXe P w) P w K mg base N qual scope f cd A outer s H E).stack H1 s.heap s1.heap (PySem.W.hideAll s1.heap (frs (cxOf (CXe P w) P w K mg base N qual scope f cd A outer s H E).stack)) :=
  fun b o e _ n=>PySem.W.hideAll_get _ e n
 refine zaa ?_; intro G_; obtain ⟨u,ok,cv⟩:=I.leave rfl rfl rfl cov x1.1 ((Heap.UpToSlots.of_keeps hx.keeps).trans x4)
 exact ⟨a,cls,H1,rfl,I.os,I.bare,u,ok,⟨_,_,x1,cv⟩,hE⟩
theorem zcJ:Passes (CXe P w) (cxOf (CXe P w) P w K mg base N qual scope f cd A outer s H E) E:=by
 intro pins σ H2 s2 e s3 I hc
 refine zaa ?_; intro G_; obtain ⟨a,cls,H3,rfl,hos,hb,u,ok,⟨a0,B,fl,cov⟩,hE⟩:=hc
 have I3:Inv (cxOf (CXe P w) P w K mg base N qual scope f cd A outer s H E) pins σ H3 s3:=I.call' (ch:=[]) hos u ok hb fun b z=>nomatch z
 refine wpAny_leaves_onW I3.ok.frames rfl fl fun h4 x1 up=>?_
 have cov':Cov (cxOf (CXe P w) P w K mg base N qual scope f cd A outer s H E).stack H3 s.heap s3.heap B:=fun b o e q n=>cov b o e (q.imp id fun ⟨v,z⟩=>I.base.there b v z (fun z=>nomatch z)) n
 refine zaa ?_; intro G_; obtain ⟨u',ok',cv⟩:=I3.leave rfl rfl rfl cov' x1.1 up
 exact ⟨a,cls,H3,rfl,I3.os,I3.bare,u',ok',⟨_,_,x1,cv⟩,hE⟩
end
def PX (X:Cx) (e:Expr) (tx:XK → TE) : Prop :=
 ∀ (pins:List (Addr × Obj)) (s:Shared) (σ:St) (H:Hp) (Q:VK) (E:XK) (W:Value → Shared → Prop),Inv X pins σ H s → (∀ H1 s1 e1 s2,Inv X pins σ H1 s1 → CXe X.prog X.w X.stack H1 s1 E e1 s2 → W e1 s2) →
  tx E σ H Q → wpAny (model X.prog X.w) X.A (eval e X.env) (EP X pins σ Q) W s
theorem PX.pe {X:Cx} {e:Expr} {tx:XK → TE} {E:XK} (h:PX X e tx) (hp:Passes (CXe X.prog X.w) X E) : PE X e (tx E) :=
 fun pins s σ H Q I hw=>h pins s σ H Q E X.xe I (fun H1 s1 e1 s2 I1 c=>hp pins σ H1 s1 e1 s2 I1 c) hw
structure FnX (P:Program) (w:World) (K:PySem.W.Frag) (mg:Str → Option Value) (base:Heap) (k:Nat) (x:Str) (ps:List Str) (sp:Sp) : Prop where
 ex:∃ (f:Addr) (fd:FuncData),FnOk P w K mg base (CXe P w) k f fd ps sp ∧ mg x = some (.ref f) ∧ PySem.W.keepIn K (.ref f) = true ∧ Binds K fd ps []
section
variable {X:Cx} {k j:Nat} {x:Str} {ps:List Str} {sp:Sp} {p pos:Pos} {e:Expr} {es:List Expr} {t:TA}
theorem PA.at {W:Value → Shared → Prop} (h:PA X.nox es t) {pos:Pos} {pins:List (Addr × Obj)} {s:Shared} {σ:St} {H:Hp} {Q:List V → Hp → Prop} (I:Inv X pins σ H s) (hw:t σ H Q) :
  wpAny (model X.prog X.w) X.A (spliced (backTo pos (starEach es X.env))) (AP X pins σ Q) W s :=
 wpAny_mono (h pos pins s σ H Q (I.wish _) hw) (by rintro _ _ ⟨vs,H',I',r,q⟩; exact ⟨vs,H',I'.unwish,r,q⟩) fun _ _ z=>False.elim z
theorem zop (F:FnX X.prog X.w X.K X.mg X.base k x ps sp) (hr:Room j X.A) (ha:PA X.nox (e :: es) t) (hj:k ≤ j) (hg:Gl X x) (hdb:(x == ("__debug__" : Str)) = false)
  (he:starEach (e :: es) X.env = (false,eval e X.env) :: starEach es X.env) (hpl:(backTo pos (starEach es X.env)).any (·.1) = false) : PX X (.Call (.Name x p) (e :: es) [] pos) (fun E=>zek sp [] E t):=by
 refine zaa ?_; intro G_; obtain ⟨f,fd,F,hm,hk,hb⟩:=F.ex
 intro pins s σ H Q E W I hW h
 refine wpAny_Call_Name_kw (zd2 I hg hm ?_ hdb)
 refine PySem.W.callWith_K (h₀:=X.base) I.ok.mod.kin hk (thn (PA.at ha I h) fun us s1 ⟨vs,H1,I1,r,q⟩=>⟨I1.kIn,?_⟩) he hpl
 have r2:Vals (vs ++ []) (us ++ []):=r.append .nil
 have hl:(us ++ []).length = ps.length:=by rw [← r2.length]; exact F.len _ _ _ _ q
 refine wpAny_call (codeAny_mono (F.run X.A X.stack s1 H1 ⟨us,[]⟩ (us ++ []) (vs ++ []) Q E (hr.mono hj) I1.env0 (hb s1 us I1.kIn hl) r2 q) fun r s' hq=>?_)
 cases r with
 | error e=>exact hW H1 s1 e s' I1 hq
 | ok fl =>
  cases fl with
  | ret u=>exact I1.after hq
  | next=>exact False.elim hq
  | brk=>exact False.elim hq
  | cont=>exact False.elim hq
end
end L2
namespace L2
open PySem PySem.Spec PyProof.Rows
abbrev veM:List Value:=[.type "ValueError", .type "Exception", .type "BaseException", .type "object"]
structure ErrC (K:PySem.W.Frag) (mg:Str → Option Value) (x:Str) (C:Addr) : Prop where
 bound:mg x = some (.ref C)
 exc:PySem.W.excIn K C veM "ValueError.__new__" = true
theorem ErrC.obj {K:PySem.W.Frag} {mg:Str → Option Value} {x:Str} {C:Addr} (e:ErrC K mg x C) {h:Heap} (X:K.In h) :
  ∃ tl N nm qn bs hd sn sb ab cl dd k0 k1 k2 k3 k5 mN,h.get? C = some (excClassObj nm qn C N bs tl hd sn sb ab cl dd k0 k1 k2 k3 k5 "ValueError.__new__") ∧ h.Ns N mN ∧ mN "__init__" = none ∧ OwnTail h veM tl:=by
 have hq:=e.exc
 unfold PySem.W.excIn at hq
 split at hq
 case h_2=>cases hq
 case h_1 dd cd sl lk =>
  split at hq
  case h_2=>cases hq
  case h_1 C1 tl k0 k1 k2 k3 nw k5 em es =>
   simp only [Bool.and_eq_true,beq_iff_eq,Bool.not_eq_true'] at hq
   refine zaa ?_; intro G_; obtain ⟨⟨⟨⟨⟨rfl,rfl⟩,ed⟩,et⟩,en⟩,ei⟩:=hq
   cases cd with
   | mk nm bs mro ns qn hdc sn sb ab cl dl =>
    dsimp only at em ed en ei; subst em; subst ed
    cases sl with
    | mk sl' =>
     simp only at es; subst es
     exact ⟨tl,ns,nm,qn,bs,hdc,sn,sb,ab,cl,dd,k0,k1,k2,k3,k5,_,X _ _ lk,.of_isNs (PySem.W.isNs_of_in X en),PySem.W.nsMap_none_of_in X en ei,PySem.W.tail_of_in X et⟩
def Raises (X:Cx) (E:XK) : Prop:=∀ (pins:List (Addr × Obj)) (σ:St) (H1:Hp) (s1:Shared) (h':Heap) (a:Addr) (cls:Value) (vs:List Value),Inv X pins σ H1 s1 → Heap.MadeExcOf s1.heap h' a cls vs → E cls none H1 → X.xe (.ref a) { s1 with heap:=h' }
def zlt (C:Addr) (E:XK) (te:TE) : TS:=fun _ σ H=>te σ H fun v H1=>[v].length = 1 ∧ E (.ref C) none H1
section
variable {X:Cx} {E:XK} {x:Str} {C:Addr} {np cp pos:Pos} {e:Expr} {te:TE}
theorem zkO (hR:Raises X E) (O:ErrC X.K X.mg x C) (ha:PA X [e] (zax te tNil)) (hst:starEach [e] X.env = [(false,eval e X.env)]) (hc:X.calm = true) (hg:Gl X x) (hdb:(x == ("__debug__" : Str)) = false) :
  PS X (.Raise (some (.Call (.Name x np) [e] [] cp)) none pos) (zlt C E te):=by
 intro pins s σ H D I h
 refine zaa ?_; intro G_; obtain ⟨tl,N,nm,qn,bs,hd,sn,sb,ab,cl,dd,k0,k1,k2,k3,k5,mN,hC,hN,hi,T⟩:=O.obj I.ok.mod.kin
 refine wpAny_Raise_call_subT (C:=C) (nm:=nm) (q:=qn) (N:=N) (bs:=bs) (bm:=tl) (hdct:=hd) (sn:=sn) (sub:=sb) (ab:=ab) (col:=cl) (dd:=dd) (k0:=k0) (k1:=k1) (k2:=k2) (k3:=k3) (k5:=k5)
  F.excBase_ValueError (mN:=mN) (T.hasType F.excBase_ValueError.hasBase) (I.ok.hd hc) (by rw [hst]; rfl) hi (zd2 I hg O.bound ⟨rfl,?_⟩ hdb)
 have ha':=ha cp pins s σ H (fun vs H1=>vs.length = 1 ∧ E (.ref C) none H1) I h
 rw [hst] at ha' ⊢
 refine Calls.evalArgs_plain (wpAny_mono ha' (fun us s2 ⟨vs,H1,I1,r,hl,hE⟩=>?_) fun _ _ y=>y)
 refine ⟨rfl,?_,I1.bk _ _ hC,hN.keeps I1.bk,T.keeps I1.bk,fun h' a hx=>hR pins σ H1 s2 h' a _ _ I1 hx hE⟩
 show us.length ≤ sizeLine
 rw [← r.length,hl]; decide
end
abbrev TJ:=St → Hp → (Str → Hp → Prop) → Prop
def PJ (X:Cx) (es:List Expr) (t:TJ) : Prop:=∀ (pins:List (Addr × Obj)) (s:Shared) (σ:St) (H:Hp) (acc:Str) (Q:Str → Hp → Prop),Inv X pins σ H s → acc.length + 5000 * es.length ≤ sizeLine → t σ H (fun out H'=>Q (acc ++ out) H') →
 Joins (model X.prog X.w) X.A X.xe (evalEach es X.env) acc (fun out s1=>out.length ≤ sizeLine ∧ ∃ H',Inv X pins σ H' s1 ∧ Q out H') s
def jNil:TJ:=fun _ H Q=>Q Str.empty H
def zm5 (te:TE) (t:TJ) : TJ:=fun σ H Q=>te σ H fun v H1=>∃ y:Str,v = .str y ∧ y.length ≤ 5000 ∧ t σ H1 fun out H2=>Q (y ++ out) H2
def tFst (t:TJ) : TE:=fun σ H Q=>t σ H fun out H1=>Q (.str out) H1
section
variable {X:Cx} {pos:Pos} {e e2:Expr} {es:List Expr} {te:TE} {t:TJ}
theorem znO:PJ X [] jNil:=by
 intro pins s σ H acc Q I hl h
 exact ⟨by simpa using hl,H,I,by have z:Q (acc ++ Str.empty) H:=h; rwa [Str.append_empty] at z⟩
theorem zl8 (he:PE X e te) (ht:PJ X es t) : PJ X (e :: es) (zm5 te t):=by
 intro pins s σ H acc Q I hl h
 refine thn (he pins s σ H _ I h) fun u s1 ⟨v,H1,I1,r,y,ev,hy,q⟩=>?_
 subst ev
 obtain ⟨tk,rfl⟩:=(show ∃ tk,u = Value.str y tk from r)
 have hl':(acc ++ y).length + 5000 * es.length ≤ sizeLine:=by
  rw [strLen_append]
  rw [List.length_cons] at hl
  lia
 refine ⟨y,tk,rfl,by lia,ht pins s1 σ H1 (acc ++ y) Q I1 hl' ?_⟩
 have ea:∀ out:Str,acc ++ (y ++ out) = acc ++ y ++ out:=fun out=>(Str.append_assoc acc y out).symm
 simp only [ea] at q
 exact q
theorem zeD {M:Model} {A:Around} {E:Value → Shared → Prop} {Q Q':Str → Shared → Prop} : ∀ {ps:List (Sem Value)} {acc:Str} {s:Shared},Joins M A E ps acc Q s → (∀ o s1,Q o s1 → Q' o s1) → Joins M A E ps acc Q' s
 | [],_,_,h,f=>f _ _ h
 | _ :: _,_,_,h,f=>thn h (by rintro _ _ ⟨y,t,a,b,c⟩; exact ⟨y,t,a,b,zeD c f⟩)
theorem zn4 (h:PJ X (e :: e2 :: es) t) (hl:5000 * (e :: e2 :: es).length ≤ sizeLine:=by decide) : PE X (.JoinedStr (e :: e2 :: es) pos) (tFst t):=by
 intro pins s σ H Q I hw
 refine wpAny_JoinedStr ?_
 have ee:∀ out:Str,Str.empty ++ out = out:=Str.empty_append
 unfold tFst at hw
 have z:=h pins s σ H Str.empty (fun out H'=>Q (.str out) H') I (by show 0 + _ ≤ _; lia) (by simp only [ee]; exact hw)
 refine zeD z (by rintro out s1 ⟨h1,H',I',q⟩; exact ⟨h1,.str out,H',I'.tok _,⟨_,rfl⟩,q⟩)
def tFmI (te:TE) : TE:=fun σ H Q=>te σ H fun v H1=>∃ i:Int,v = .int i ∧ i.natAbs.log2 < 1920 ∧ Q (.str (toString i)) H1
theorem zn8 (he:PE X e te) : PE X (.FormattedValue e (-1) none pos) (tFmI te):=by
 intro pins s σ H Q I hw
 refine wpAny_FormattedValue_plain (thn (he pins s σ H _ I hw) fun u s1 ⟨v,H1,I1,r,i,ev,hi,q⟩=>?_)
 subst ev
 obtain ⟨tk,rfl⟩:=(show ∃ tk,u = Value.int i tk from r)
 exact wpAny_formatField_int hi ⟨.str _,H1,I1.tok _,⟨_,rfl⟩,q⟩
theorem zlZ {i:Int} (h:i.natAbs.log2 < 1920) : (Str.ofString (toString i)).length ≤ 5000:=by
 have e:=int_text_length_le (k:=1920) (by decide) h
 rw [PySem.ofString_length]; lia
end
end L2
namespace L2
open PySem PySem.Spec PyProof.Rows
def excO (a:Addr) (cls:Value) : HO:=.ext fun h=>∃ o,h.get? a = some o ∧ o.cls = cls
theorem zmz {P:Program} {w:World} {H:Hp} {h:Heap} {a:Addr} {cls:Value} {o:Obj} (e:h.get? a = some o) (c:o.cls = cls) : ObjOk P w H h a (excO a cls) :=
 ⟨⟨o,e,c⟩,⟨o,e⟩,(by rintro _ _ ⟨u,p,q⟩ k; exact ⟨u,k u p,q⟩)⟩
theorem ziQ {P:Program} {w:World} {H:Hp} {h:Heap} {a:Addr} {cls:Value} (x:ObjOk P w H h a (excO a cls)) : ∃ o,h.get? a = some o ∧ o.cls = cls:=x.1
def Cx.sub (X:Cx) (a:Addr) (E:Value → Shared → Prop) : Cx:={ X with A:=X.A.mark (some (.ref a)),calm:=false,xe:=E }
theorem Cx.Ok.sub {X:Cx} (ok:X.Ok) (a:Addr) (E:Value → Shared → Prop) : (X.sub a E).Ok :=
 ⟨ok.mod,ok.kind,ok.glob,ok.blt,ok.above,ok.inj,ok.has,ok.cab,(fun z=>nomatch z),ok.frames,ok.stk,ok.exf,ok.bs,ok.bsz,ok.noex,ok.exfs,ok.funs,ok.frf⟩
section
variable {X:Cx} {pins:List (Addr × Obj)} {σ:St} {H:Hp} {s:Shared} {a:Addr} {E:Value → Shared → Prop}
theorem Inv.sub (I:Inv X pins σ H s) (a:Addr) (E:Value → Shared → Prop) : Inv (X.sub a E) pins σ H s:=⟨I.ok.sub a E,I.os,I.bare,I.base,I.loc,I.cell,I.free,I.freeC,I.pin,I.hok,I.len⟩
theorem Inv.unsub (I:Inv (X.sub a E) pins σ H s) (ok:X.Ok) : Inv X pins σ H s:=⟨ok,I.os,I.bare,I.base,I.loc,I.cell,I.free,I.freeC,I.pin,I.hok,I.len⟩
theorem Inv.forget {j:Nat} {n:Str} {h':Heap} {v:Option Value} {m:Str → Option Value} {tk:Nat} (I:Inv X pins σ H s) (hN:X.N.Nodup) (hn:s.heap.Ns X.env.locals m)
  (hm:∀ (i:Nat) (x:Str) (v:V),X.N[i]? = some x → σ[i]? = some (some v) → Vis X.env.scope x → ∃ u,RelV v u ∧ Look X.env s.heap m x u) (hj:X.N[j]? = some n)
  (hn':h'.Ns X.env.locals (fun x=>if x = n then v else m x)) (hs:Heap.SameBut X.env.locals s.heap h') : Inv X pins (σ.set j none) H { s with heap:=h',toks:=tk }:=by
 have hk:∀ b o,b ≠ X.env.locals → s.heap.get? b = some o → h'.get? b = some o:=fun b o nb e=>(hs.2 b nb).trans e
 refine zaa ?_; intro G_; obtain ⟨oL,_,_,hoL,_⟩:=id hn
 refine zaa ?_; intro G_; obtain ⟨oL',_,_,hoL',_⟩:=id hn'
 have cne:=I.cne
 refine ⟨I.ok,I.os,I.bare,⟨fun b o e n hb hx=>?_,fun b o e n hb hx=>?_,I.base.free,fun b o e hx=>?_,I.base.tups,I.base.frzs,I.base.tbls⟩,⟨_,hn',fun i x w e1 e2 e3=>?_⟩,fun y c e=>?_,I.free,I.freeC,fun p hp=>?_,fun b o e=>?_,by simpa using I.len⟩
 ·exact hk b o (Nat.ne_of_lt (Nat.lt_of_lt_of_le (Heap.lt_size e) I.ok.above)) (I.base.keep b o e n hb hx)
 ·obtain ⟨sl,e1⟩:=I.base.slot b o e n hb hx
  exact ⟨sl,hk b _ (Nat.ne_of_lt (Nat.lt_of_lt_of_le (Heap.lt_size e) I.ok.above)) e1⟩
 ·obtain ⟨o',e1⟩:=I.base.there b o e hx
  exact ⟨o',hk b _ (Nat.ne_of_lt (Nat.lt_of_lt_of_le (Heap.lt_size e) I.ok.above)) e1⟩
 ·have hij:i ≠ j:=fun z=>by
   subst z
   rw [List.getElem?_set] at e2
   simp at e2
  rw [List.getElem?_set_ne (Ne.symm hij)] at e2
  refine zaa ?_; intro G_; obtain ⟨u,r,q⟩:=hm i x w e1 e2 e3
  refine ⟨u,r,?_⟩
  rcases q with ⟨k,e⟩ | ⟨k,c,e,z⟩
  ·by_cases hx:x = n
   ·subst hx; exact absurd (zeW hN e1 hj) hij
   ·exact .inl ⟨k,by simp [hx,e]⟩
  ·exact .inr ⟨k,c,e,z.sameBut hs (cne x c e)⟩
 ·obtain ⟨w',z⟩:=I.cell y c e
  exact ⟨w',z.sameBut hs (cne y c e)⟩
 ·refine zaa ?_; intro G_; obtain ⟨e,n,ne,nf,d⟩:=I.pin p hp
  exact ⟨hk _ _ ne e,n,ne,nf,d⟩
 ·refine (I.hok b o e).stay (fun c w' hc q=>hk c w' ?_ q) (fun _ q=>q) fun _ _ q=>q
  rintro rfl
  rcases hc with rfl | hc
  ·rw [I.free] at e; cases e
  ·rw [I.free] at hc; cases hc
end
theorem Inv.trackE {X:Cx} {pins:List (Addr × Obj)} {σ:St} {H:Hp} {s:Shared} {a:Addr} {o:HO} (I:Inv X pins σ H s) (ha:H a = none) (h0:X.s₀.heap.get? a = none) (hl:a ≠ X.env.locals) (hc:∀ x c,X.env.cells.lookup x = some c → c ≠ a)
  (hp:∀ p ∈ X.pn ++ pins,p.1 ≠ a) (new:ObjOk X.prog X.w (upd H a o) s.heap a o) : Inv X pins σ (upd H a o) s:=by
 refine ⟨I.ok,I.os,I.bare,⟨I.base.keep,I.base.slot,fun b u e n hx=>?_,I.base.there,fun b xs e=>?_,fun b u xs e=>?_,fun b ps e=>?_⟩,I.loc,I.cell,?_,fun x c e=>?_,fun p hq=>?_,fun b u e=>?_,I.len⟩
 ·rw [zad (fun z=>by subst z; rw [h0] at e; cases e)]; exact I.base.free b u e n hx
 ·have q:=I.base.tups b xs e
  rw [zad (zaf q ha)]; exact q
 ·have q:=I.base.frzs b u xs e
  rw [zad (zaf q ha)]; exact q
 ·obtain ⟨m,q⟩:=I.base.tbls b ps e
  exact ⟨m,by rw [zad (zaf q ha)]; exact q⟩
 ·rw [zad (Ne.symm hl)]; exact I.free
 ·rw [zad (hc x c e)]; exact I.freeC x c e
 ·refine zaa ?_; intro G_; obtain ⟨e,n,r⟩:=I.pin p hq
  exact ⟨e,by rw [zad (hp p hq)]; exact n,r⟩
 ·by_cases hb:b = a
  ·subst hb; rw [zab] at e; cases e; exact new
  ·rw [zad hb] at e
   exact (I.hok b u e).stay (fun c v _ q=>q) (fun c q=>by rw [zad (zaf q ha)]; exact q) fun c xs q=>by rw [zad (zaf q ha)]; exact q
def zk2 (K:PySem.W.Frag) (C:Addr) (iy ie:Nat) (nx:St → Hp → Prop) (σ:St) : XK:=fun cls _ H =>
 PySem.W.exmOne K cls (.ref C) = some true ∧ ∀ a,H a = none → nx ((σ.set ie (some (.ref a))).set iy (some (.ref a)) |>.set ie none) (upd H a (excO a cls))
section
variable {X:Cx} {cn en y:Str} {C:Addr} {cp yp ep ap hp:Pos} {iy ie:Nat} {pins:List (Addr × Obj)} {σ:St} {D:Ends} {H1:Hp} {s1 s2:Shared} {e1:Value}
theorem zod (hex:X.ex = []) (hst:X.stack = X.env :: X.outer) (hf:X.env.frame = some X.env.locals) (hN:X.N.Nodup) (hg:Gl X cn) (hm:X.mg cn = some (.ref C)) (hdb:(cn == ("__debug__" : Str)) = false) (hie:X.N[ie]? = some en) (hiy:X.N[iy]? = some y)
  (hen:X.env.scope.names.lookup en = some .local) (hy:X.env.scope.names.lookup y = some .local) (hde:(en == ("__debug__" : Str)) = false) (hce:(en == ("__classdict__" : Str)) = false)
  (I:Inv X pins σ H1 s1) (hc:CXe X.prog X.w X.stack H1 s1 (zk2 X.K C iy ie D.nx σ) e1 s2) :
  wpAny (model X.prog X.w) X.A (noteFrame e1 X.env) (fun _ s3=>wpAny (model X.prog X.w) X.A (setFlight e1 none) (fun _ s4 =>
   wpAny (model X.prog X.w) X.A (handleBy e1 X.env [.ExceptHandler (some (.Name cn cp)) (some en) [.Assign [.Name y yp] (.Name en ep) ap] hp]) (SP X pins D) X.xe s4) X.xe s3) X.xe s2:=by
 refine zaa ?_; intro G_; obtain ⟨a,cls,H3,rfl,hos,hb,u,ok,⟨a0,B,fl,cov⟩,hx,hE⟩:=hc
 have I3:Inv X pins σ H3 s2:=I.call' (ch:=[]) hos u ok hb fun b z=>nomatch z
 have nf:∀ b ∈ frs X.stack,∃ o,s2.heap.get? b = some o ∧ ∀ vs,o.data ≠ .fields vs:=fun b hb=>(fl.2.2.1.mem hb).2
 have lands:∀ {h5:Heap} {tk:Nat},B.StaysIn h5 → s2.heap.UpToSlots h5 → Inv X pins σ H3 { s2 with heap:=h5,toks:=tk }:=fun {h5 tk} st up =>
  I.call' (s':={ s2 with heap:=h5,toks:=tk }) (ch:=[]) hos (Cov.un u cov st up nf) (Cov.hok ok cov st fun b z=>I3.stkFree b z) hb fun b z=>nomatch z
 have fl':=fl
 rw [hst] at fl'
 refine wpAny_looks_onW (by rw [← hst]; exact I.ok.frames) hf fl' fun h4 hh4 up4=>?_
 refine wpAny_landsW hh4 fun h5 fl5 up5=>?_
 have I5:Inv X pins σ H3 { s2 with heap:=h5 }:=lands (tk:=s2.toks) fl5.1 (up4.trans up5)
 refine zaa ?_; intro G_; obtain ⟨oe,ho5,hcl5⟩:=fl5.there
 have na:s1.heap.get? a = none:=by
  cases z:s1.heap.get? a with
  | none=>rfl
  | some o =>
   obtain ⟨o',z'⟩:=u.there a o z (fun z=>nomatch z)
   refine zaa ?_; intro G_; obtain ⟨oe',ho',_⟩:=fl.there
   by_cases hfr:a ∈ frs X.stack
   ·refine zaa ?_; intro G_; obtain ⟨oe2,vs,_,_,_,q1,_,q2,_⟩:=fl.2.2.2
    refine zaa ?_; intro G_; obtain ⟨o2,q3,q4⟩:=nf a hfr
    rw [q1] at q3; cases q3
    exact absurd q2 (q4 vs)
   ·have:=cov a o' z' (.inr ⟨o,z⟩) hfr
    rw [fl.2.1] at this; cases this
 have nH:H3 a = none:=by
  cases z:H3 a with
  | none=>rfl
  | some o =>
   obtain ⟨o',z'⟩:=(ok a o z).at
   by_cases hfr:a ∈ frs X.stack
   ·rw [I3.stkFree a hfr] at z; cases z
   ·have:=cov a o' z' (.inl (by rw [z]; simp)) hfr
    rw [fl.2.1] at this; cases this
 have n0:X.s₀.heap.get? a = none:=by
  cases z:X.s₀.heap.get? a with
  | none=>rfl
  | some o =>
   obtain ⟨o',z'⟩:=I.base.there a o z (by rw [hex]; exact fun z=>nomatch z)
   rw [na] at z'; cases z'
 have nL:a ≠ X.env.locals:=fun z=>by
  refine zaa ?_; intro G_; obtain ⟨m,⟨o,_,_,ho,_⟩,_⟩:=I.loc
  rw [← z,na] at ho; cases ho
 have nC:∀ x c,X.env.cells.lookup x = some c → c ≠ a:=fun x c e z=>by
  refine zaa ?_; intro G_; obtain ⟨v,o,ho,_⟩:=I.cell x c e
  rw [z,na] at ho; cases ho
 have nP:∀ p ∈ X.pn ++ pins,p.1 ≠ a:=fun p hp z=>by
  have:=(I.pin p hp).1
  rw [z,na] at this; cases this
 refine wpAny_handleBy_cons (codeAny_handlers_test ?_) (by intro q; cases q)
 refine zd2 (X:=X.sub a fun _ _=>False) (I5.sub a _) hg hm ?_ hdb
 have LT:PySem.W.Looks (model X.prog X.w) h5 (typeOf (.ref a)) oe.cls:=(PySem.W.Looks.ld ho5).andThen .now
 rw [hcl5] at LT
 refine (PySem.W.exm_one I5.kIn LT hx).here ?_
 refine codeAny_handlers_suite_as ?_
 refine lands_againW fl5 fun h6 fl6 up6=>?_
 have I6:Inv X pins σ H3 { s2 with heap:=h6 }:=lands (tk:=s2.toks) fl6.1 (up4.trans (up5.trans up6))
 refine zaa ?_; intro G_; obtain ⟨oe6,ho6,hcl6⟩:=fl6.there
 have I7:Inv X pins σ (upd H3 a (excO a cls)) { s2 with heap:=h6 }:=I6.trackE nH n0 nL nC nP (zmz ho6 hcl6)
 refine ze9 (X:=X.sub a fun _ _=>False) (v:=.ref a) (I7.sub a _) hN hie (.inl hen) rfl (fun s8 I8=>?_) (.inr hen)
 have run:=zjk (zh5 (X:=X.sub a fun _ _=>False) (i:=iy) (x:=y) (pos':=yp) (pos:=ap) hN hiy (.inl hy) (zjw (x:=en) (pos:=ep) hie (.inl hen) hde hce) rfl (.inr hy)) pins s8 _ _
  { nx:=fun σ' H'=>σ' = ((σ.set ie (some (.ref a))).set iy (some (.ref a))) ∧ H' = upd H3 a (excO a cls),rt:=fun _ _=>False } I8
  ⟨.ref a,by rw [List.getElem?_set_self (by rw [I.len]; exact (List.getElem?_eq_some_iff.mp hie).1)],rfl,rfl⟩
 refine wpAny_mono run (fun f s9 q=>?_) fun _ _ z=>z.elim
 cases f with
 | next =>
  refine zaa ?_; intro G_; obtain ⟨σ',H',I9,rfl,rfl⟩:=q
  have I9':=I9.unsub I.ok
  refine zaa ?_; intro G_; obtain ⟨m,hn,hm'⟩:=I9'.loc
  refine wpAny_nameGoes_keeps hen hn (by rw [I.ok.kind]; rfl) fun h' v hn' hs=>?_
  exact ⟨_,_,I9'.forget hN hn hm' hie hn' hs,hE a nH⟩
 | ret v=>obtain ⟨_,_,_,_,_,z⟩:=q; exact z.elim
 | brk=>obtain ⟨_,_,_,z⟩:=q; exact z.elim
 | cont=>obtain ⟨_,_,_,z⟩:=q; exact z.elim
end
end L2
namespace L2
open PySem PySem.Spec PyProof.Rows PySem.W PySem.Calls
structure ErrK (K:PySem.W.Frag) (C:Addr) : Prop where
 cl:(clsIn K C).isSome = true
 ga:findIn K (.ref C) "__getattribute__" = some (some (.builtin "BaseException.__getattribute__"))
 hk:findIn K (.ref C) "__getattr__" = some none
 fd:findIn K (.ref C) "__class__" = some (some (.builtin "object.__class__"))
 gt:specialIn K (.builtin "object.__class__") "__get__" = some (some (.builtin "getset_descriptor.__get__"))
 tk:takesIn K (.builtin "object.__class__") = some true
 mo:mroIn K C (.type "object") = some true
 mb:mroIn K C (.type "BaseException") = some true
section
open Builtin Builtin.ObjectAttr Builtin.Getset_descriptor
variable {K:PySem.W.Frag} {C a:Addr} {o:Obj} {prog:Program} {w:World} {A:Around} {s:Shared}
theorem zk1 {M:Model} {h:Heap} (X:K.In h) (e:ErrK K C) : Looks M h (ObjectAttr.find (.ref a) (.ref C) "__class__") (.bind (.builtin "getset_descriptor.__get__") (.builtin "object.__class__")):=by
 have L1:=looks_findIn (M:=M) X e.fd
 have L2:Looks M h (getOf (some (.builtin "object.__class__"))) _:=looks_specialIn X e.gt
 have L3:=looks_takesIn (M:=M) X e.tk
 exact L1.andThen (L2.andThen ((show Looks M h (dataDescriptor? (some (.builtin "object.__class__")) (some (.builtin "getset_descriptor.__get__"))) (some (.builtin "getset_descriptor.__get__", .builtin "object.__class__")) from L3.andThen .now).andThen (Looks.tag .now)))
theorem zfM {M:Model} {h:Heap} (hx:h.get? a = some o) (hc:o.cls = .ref C) : Looks M h (typeOf (.ref a)) (.ref C):=hc ▸ (Looks.ld hx).andThen .now
theorem zmK {R:Result → Shared → Prop} {tp:Value} (X:K.In s.heap) (hx:s.heap.get? a = some o) (hc:o.cls = .ref C) (e:ErrK K C) (h:R (.ok (.ret (.ref C))) s) :
  codeAny (model prog w) A (.call (.builtin "getset_descriptor.__get__") ⟨[.builtin "object.__class__", .ref a,tp],[]⟩) R s:=by
 refine zaa ?_; intro G_; obtain ⟨hh,g,dr,t,os⟩:=s
 have L0:=zfM (M:=model prog w) hx hc; have L1:=looks_mroIn (M:=model prog w) X e.mo
 refine codeAny_call_builtin KF.slot_gs.plain KF.entry_gs (KF.slot_gs.check _ _ _ _ _ _ _ _ KF.type_class (KF.args_gs _ _ _) ?_); unfold Builtin.«getset_descriptor.__get__» descrGet; rw [dga_obj]
 refine wpAny_bind (wpAny_pure ?_); unfold descrGetter descrCheckInstance descrNameAndClass isInstance; simp only [KF.owner_class]
 repeat lk
 refine ⟨Code.quiet_builtin _ (by decide +kernel),codeAny_builtin KF.entry_class ?_⟩; unfold Builtin.«object.__class__» shownTypeOf
 repeat lk
 exact h
theorem zjF {tk:Tok} {Q:Fin → Shared → Prop} {E:Value → Shared → Prop} (X:K.In s.heap) (hx:s.heap.get? a = some o) (hc:o.cls = .ref C) (e:ErrK K C) (h:Q (.done (.ret (.ref C))) s) :
  wpAny (model prog w) A (Builtin.«object.__getattribute__» ⟨[.ref a,.str "__class__" tk],[]⟩) Q E s:=by
 obtain ⟨hh,g,dr,t,os⟩:=s
 have L0:=zfM (M:=model prog w) hx hc
 have L1:=zk1 (M:=model prog w) (a:=a) X e
 unfold Builtin.«object.__getattribute__»
 refine wpAny_bind (wpAny_pure (wpAny_bind (wpAny_pure (wpAny_bind (L0.at (wpAny_bind (L1.at ?_)))))))
 show wpAny _ _ (holding [.builtin "object.__class__"] (call (.builtin "getset_descriptor.__get__") [.builtin "object.__class__", .ref a,.ref C]) >>= ret) _ _ _
 refine wpAny_bind (wpAny_holding (wpAny_call (zmK X hx hc e ?_)))
 exact wpAny_pure h
theorem zi1 {nv:Value} {Q:Unit → Shared → Prop} {E:Value → Shared → Prop} (X:K.In s.heap) (hx:s.heap.get? a = some o) (hc:o.cls = .ref C) (e:ErrK K C) (h:Q () s) :
  wpAny (model prog w) A (checkBuiltinCall "BaseException.__getattribute__" ⟨[.ref a,nv],[]⟩) Q E s:=by
 have hkd:builtinKind "BaseException.__getattribute__" = some .slot:=by decide +kernel
 have hsp:splitId "BaseException.__getattribute__" = some ("BaseException","__getattribute__"):=by decide +kernel
 have L0:Looks (model prog w) s.heap (isInstance (.ref a) (.type "BaseException")) true:=(zfM hx hc).andThen (looks_mroIn X e.mb)
 have ha:=F.args_bexc_ga (.ref a) nv
 obtain ⟨hh,g,dr,t,os⟩:=s
 simp only [checkBuiltinCall,hkd,hsp]
 refine wpAny_bind (L0.at ?_)
 repeat (first | assumption | wp_step)
theorem ziP {Q:Option Value → Shared → Prop} {E:Value → Shared → Prop} (X:K.In s.heap) (hx:s.heap.get? a = some o) (hc:o.cls = .ref C) (e:ErrK K C) (h:Q (some (.ref C)) { s with toks:=s.toks + 1 }) :
  wpAny (model prog w) A (getAttr? (.ref a) "__class__") Q E s:=by
 obtain ⟨hh,g,dr,t,os⟩:=s
 have L0:=zfM (M:=model prog w) hx hc
 have L1:=looks_findIn (M:=model prog w) X e.ga
 have L2:=looks_findIn (M:=model prog w) X e.hk
 have hne:(onTheHeap (Value.ref C) && Value.builtin "BaseException.__getattribute__" == Value.builtin "object.__getattribute__") = false:=by
  have:(Value.builtin "BaseException.__getattribute__" == Value.builtin "object.__getattribute__") = false:=by decide +kernel
  rw [this]; rfl
 unfold getAttr? getAttrBy? getAttrBy
 refine wpAny_bind (wpAny_mkText (wpAny_bind (wpAny_attempt (wpAny_holding (wpAny_bind (L0.at (wpAny_bind (L1.at ?_))))))))
 dsimp only
 rw [if_neg (by rw [hne]; decide)]
 unfold getAttrByItsOwn
 refine wpAny_bind ?_
 show wpAny _ _ (typeLookup (.ref C) "__getattr__") _ _ _
 refine L2.at ?_
 refine wpAny_bind (wpAny_attempt (wpAny_holding ?_))
 show wpAny _ _ (boundAndCalled (.builtin "BaseException.__getattribute__") (.ref a) _) _ _ _
 unfold boundAndCalled
 rw [F.excAttr_ValueError.ga.bind (.ref a)]
 refine wpAny_bind (wpAny_pure (wpAny_call (codeAny_call_builtin F.excAttr_ValueError.ga.plain F.entry_bexc_ga (zi1 X hx hc e (zjF X hx hc e ?_)))))
 exact handed_on rfl (wpAny_pure h)
theorem zbx (e:ErrK K C) : KitX K (.ref a) (.ref C) (fun h=>∃ o,h.get? a = some o ∧ o.cls = .ref C) where
 ty:=(by rintro _ _ _ ⟨_,hx,hc⟩; exact zfM hx hc)
 it:=fun _ _ X _=>by
  have hcD:=e.cl
  unfold clsIn at hcD
  split at hcD
  case h_2=>cases hcD
  case h_1 ho=>exact fun A' Q' E' s' k q=>by unfold isType loadHead; exact wpAny_bind (wpAny_loadPart (k _ _ (X _ _ ho)) (wpAny_pure q))
 ne:=fun h tp dd its n sl X htp=>by
  refine Bool.eq_false_iff.mpr fun q=>?_
  have z:C = tp:=Value.ref.inj (beq_iff_eq.mp q)
  have hcD:=e.cl
  unfold clsIn at hcD
  split at hcD
  case h_2=>cases hcD
  case h_1 ho=>subst z; have y:=(X _ _ ho).symm.trans htp; cases y
 ca:=fun X ⟨_,hx,hc⟩ k=>ziP X hx hc e k
end
end L2
namespace L2
open PySem PySem.Spec PyProof.Rows
structure JX (X:Cx) (e:Expr) (tx:XK → TE) : Prop where
 h:PX X e tx
structure JJ (X:Cx) (es:List Expr) (t:TJ) : Prop where
 h:PJ X es t
section
variable {X:Cx} {k j:Nat} {x y cn en:Str} {ps:List Str} {sp:Sp} {p pos np cp yp ep ap hp tp:Pos} {e e2:Expr} {es:List Expr} {t:TA} {te:TE} {tx:XK → TE} {E:XK} {C:Addr} {tj:TJ}
theorem x_fn (F:FnX X.prog X.w X.K X.mg X.base k x ps sp) (hr:Room j X.A) (ha:JA X.nox (e :: es) t) (hj:k ≤ j:=by decide) (hg:Gl X x:=by rfl) (hdb:(x == ("__debug__" : Str)) = false:=by decide +kernel) :
  JX X (.Call (.Name x p) (e :: es) [] pos) (fun E=>zek sp [] E t):=⟨zop F hr ha.h hj hg hdb (ha.hd.star _ _) (ha.rs.no _ _)⟩
theorem JX.je (h:JX X e tx) (hp:Passes (CXe X.prog X.w) X E) : JE X e (tx E):=⟨h.h.pe hp⟩
theorem zi4 (hR:Raises X E) (O:ErrC X.K X.mg x C) (ha:JE X e te) (hn:∀ env,starEach [e] env = [(false,eval e env)]:=by intro; rfl) (hc:X.calm = true:=by rfl) (hg:Gl X x:=by rfl) (hdb:(x == ("__debug__" : Str)) = false:=by decide +kernel) :
  JS X (.Raise (some (.Call (.Name x np) [e] [] cp)) none pos) (zlt C E te):=⟨zkO hR O (zea ha.h zgV (hn _)) (hn _) hc hg hdb⟩
theorem zoC:JJ X [] jNil:=⟨znO⟩
theorem ziF (he:JE X e te) (h:JJ X es tj) : JJ X (e :: es) (zm5 te tj):=⟨zl8 he.h h.h⟩
theorem zox (h:JJ X (e :: e2 :: es) tj) (hl:5000 * (e :: e2 :: es).length ≤ sizeLine:=by decide) : JE X (.JoinedStr (e :: e2 :: es) pos) (tFst tj):=⟨zn4 h.h hl⟩
theorem zoO (he:JE X e te) : JE X (.FormattedValue e (-1) none pos) (tFmI te):=⟨zn8 he.h⟩
theorem zgt {a:Addr} (hm:X.mg x = some (.ref a)) (hg:Gl X x:=by rfl) (hd:(x == ("__debug__" : Str)) = false:=by decide +kernel) : JE X (.Name x pos) (tC (.ref a)):=⟨ziM hg hm rfl hd⟩
def zoJ (K:PySem.W.Frag) (C:Addr) (iy ie:Nat) (tx:XK → TE) : TS:=fun D σ H=>tx (zk2 K C iy ie D.nx σ) σ H fun _ H1=>D.nx σ H1
theorem znb (iy ie:Nat) (h:JX X e tx) (O:X.mg cn = some (.ref C)) (hN:X.N.Nodup) (hex:X.ex = []:=by rfl) (hst:X.stack = X.env :: X.outer:=by rfl) (hf:X.env.frame = some X.env.locals:=by rfl) (hg:Gl X cn:=by rfl) (hdb:(cn == ("__debug__" : Str)) = false:=by decide +kernel)
  (hie:X.N[ie]? = some en:=by rfl) (hiy:X.N[iy]? = some y:=by rfl) (hen:X.env.scope.names.lookup en = some .local:=by rfl) (hy:X.env.scope.names.lookup y = some .local:=by rfl)
  (hde:(en == ("__debug__" : Str)) = false:=by decide +kernel) (hce:(en == ("__classdict__" : Str)) = false:=by decide +kernel) (hs:Pln e:=by constructor) :
  JS X (.Try [.Expr e pos] [.ExceptHandler (some (.Name cn cp)) (some en) [.Assign [.Name y yp] (.Name en ep) ap] hp] [] [] tp) (zoJ X.K C iy ie tx):=by
 refine ⟨fun pins s σ H D I hw=>wpAny_Try_except ?_⟩
 refine wpAny_execs_cons (wpAny_Expr_any (wpAny_mono (h.h pins s σ H _ _ _ I (fun H1 s1 e1 s2 I1 hc=>zod hex hst hf hN hg O hdb hie hiy hen hy hde hce I1 hc) hw) (fun v s1 q=>?_) fun _ _ z=>z) I.quiet (hs.swap _ _ _))
 refine zaa ?_; intro G_; obtain ⟨x,H1,I1,r1,q1⟩:=q
 exact wpAny_execs_nil (wpAny_execs_nil ⟨σ,H1,I1,q1⟩)
def TyE (K:PySem.W.Frag) (H:Hp) (v:V) (t:Value) : Prop:=TyOf K H v t ∨ ∃ a C,v = .ref a ∧ t = .ref C ∧ H a = some (excO a (.ref C)) ∧ ErrK K C
def clV:V → Value
 | .ref C=>.ref C
 | .ty T=>.type T
 | _=>.none
def rIsE (K:PySem.W.Frag) : List V → Hp → VK → Prop:=fun xs H Q=>∃ y c t b,xs = [y,c] ∧ ((∃ C,c = .ref C) ∨ ∃ T,c = .ty T) ∧ TyE K H y t ∧ PySem.W.kitOne K t (clV c) = some b ∧ Q (.bl b) H
theorem zhe {pins:List (Addr × Obj)} {σ:St} {H:Hp} {s:Shared} {A:Around} {E:Value → Shared → Prop} {Q:Value → Shared → Prop} {c:Value} {b:Bool} {x:V} {u t:Value} (I:Inv X pins σ H s) (rx:RelV x u) (ty:TyE X.K H x t)
  (e:PySem.W.kitOne X.K t c = some b) (h:∀ tk,Q (.bool b) { s with toks:=tk }) : wpAny (model X.prog X.w) A (call (.builtin "isinstance") [u,c]) Q E s:=by
 rcases ty with ty | ⟨a,C,rfl,rfl,ha,ek⟩
 ·exact zfs I rx ty e h
 ·cases (show u = Value.ref a from rx)
  exact PySem.W.kia_one (PySem.W.KitX.mk (zbx (a:=a) ek).ty (zbx ek).it (zbx (a:=a) ek).ne (zbx ek).ca) I.kIn (ziQ (I.hok a _ ha)) e (fun z=>nomatch z) h
theorem znn:JC X (.builtin "isinstance") (rIsE X.K):=by
 refine ⟨fun pins s σ H xs us Q I r ⟨y,c,t,b,e,hc,ty,ek,q⟩=>?_⟩
 subst e
 refine zaa ?_; intro G_; obtain ⟨u,w',rfl,r1,r2⟩:=vals2 r
 rcases hc with ⟨C,rfl⟩ | ⟨T,rfl⟩
 ·cases (show w' = Value.ref C from r2)
  exact zhe I r1 ty ek fun tk=>⟨.bl b,H,I.tok tk,rfl,q⟩
 ·cases (show w' = Value.type T from r2)
  exact zhe I r1 ty ek fun tk=>⟨.bl b,H,I.tok tk,rfl,q⟩
end
section
variable {P:Program} {w:World} {K:PySem.W.Frag} {mg:Str → Option Value} {base:Heap}
theorem Fun.okX {x qual:Str} {st:Stmt} {f:Addr} {fd:FuncData} {N ps:List Str} {k:Nat} {sp:Sp} (F:Fun K x qual st f fd) (S:FnScope N ps (zae st)) (len:∀ vs H Q E,sp vs H Q E → vs.length = ps.length)
  (hbody:∀ (cdv:Value) (A:Around) (outer:List Env) (s:Shared) (H:Hp) (vs:List V) (Q:VK) (E:XK),Room k (A.deeper (envOfC qual (zae st) s.heap.objs.size f cdv)) → sp vs H Q E →
   ∃ t,JB (cxOf (CXe P w) P w K mg base N qual (zae st) f cdv A outer s H E) (za8 st) t ∧ t { nx:=fun _ H'=>Q .non H',rt:=Q } (start N vs) H) : FnOk P w K mg base (CXe P w) (k + 1) f fd ps sp:=by
 refine zaa ?_; intro G_; obtain ⟨oc,od,kV,doc,pm,an,cdv,ct,osl,rfl,lk,hcd⟩:=F.ex
 refine zmv lk hcd S len fun A outer s H vs Q E hr hsp=>?_
 refine zaa ?_; intro G_; obtain ⟨t,h1,h2⟩:=hbody cdv A outer s H vs Q E hr hsp
 exact ⟨t,h1.h,h2⟩
theorem zf9 {N:List Str} {qual:Str} {scope:Scope} {f:Addr} {cd:Value} {A:Around} {outer:List Env} {s:Shared} {H:Hp} {E:XK} : Raises (cxOf (CXe P w) P w K mg base N qual scope f cd A outer s H E) E :=
 fun pins σ H1 s1 h' a cls vs I hx hE=>zmr I hx hE
theorem zgZ {N:List Str} {qual:Str} {scope:Scope} {f:Addr} {cd:Value} {A:Around} {outer:List Env} {s:Shared} {H:Hp} {E:XK} :
  PassesOwn (model P w) (cxOf (CXe P w) P w K mg base N qual scope f cd A outer s H E).A (cxOf (CXe P w) P w K mg base N qual scope f cd A outer s H E).env (cxOf (CXe P w) P w K mg base N qual scope f cd A outer s H E).xe:=PassesOwn.leaving
end
end L2
namespace L2
open PySem PySem.Spec PyProof.Rows PySem.W
structure Errs (K:PySem.W.Frag) (mg:Str → Option Value) (WE:Addr) (c:Nat → Addr) : Prop where
 when:mg "WhenError" = some (.ref WE)
 bS:mg "NoStretch" = some (.ref (c 0))
 bW:mg "NoWidth" = some (.ref (c 1))
 bT:mg "NoTable" = some (.ref (c 2))
 bC:mg "NoColumn" = some (.ref (c 3))
 bX:mg "NoText" = some (.ref (c 4))
 bN:mg "NoName" = some (.ref (c 5))
 bR:mg "NoRow" = some (.ref (c 6))
 ve:mg "ValueError" = none
 exc:∀ i,i < 7 → excIn K (c i) veM "ValueError.__new__" = true
 ek:∀ i,i < 7 → ErrK K (c i)
 mt:∀ i,i < 7 → exmOne K (.ref (c i)) (.ref WE) = some true
 kit:∀ i,i < 7 → ∀ j,j < 7 → kitOne K (.ref (c i)) (.ref (c j)) = some (decide (i = j))
 val:∀ i,i < 7 → kitOne K (.ref (c i)) (.type "ValueError") = some true
theorem zdF:bootBuiltins "ValueError" = some (.type "ValueError"):=by decide +kernel
section
variable {X:Cx} {pos p2:Pos} {a b:Expr} {ta tb:TE}
theorem zlC (ha:JE X a ta) (hb:JE X b tb) : JE X (.Subscript a (.Slice (some b) none none p2) pos) (tSl (rSlT X.K) ta (zki tb) zeU):=⟨ze2 zlw ha.h (zgv hb.h) zgE⟩
end
end L2
namespace L2
open PySem Wr
def EntAt (H:Hp) (v:V) (e:List Int × List Stt) : Prop:=∃ t p q,v = .ref t ∧ H t = some (.tup [.ref p,.ref q]) ∧ H p = some (.tup (e.1.map V.int)) ∧ SpanAt H q e.2
def SheetAt (H:Hp) (a:Addr) (es:List (List Int × List Stt)) : Prop:=∃ xs,H a = some (.lst xs) ∧ Paired (EntAt H) xs es
theorem EntAt.same {H H':Hp} {v:V} {e:List Int × List Stt} (s:Same H H') (h:EntAt H v e) : EntAt H' v e:=by
 refine zaa ?_; intro G_; obtain ⟨t,p,q,h1,h2,h3,h4⟩:=h
 exact ⟨t,p,q,h1,s _ _ h2,s _ _ h3,h4.same s⟩
theorem SheetAt.same {H H':Hp} {a:Addr} {es:List (List Int × List Stt)} (s:Same H H') (h:SheetAt H a es) : SheetAt H' a es:=by
 refine zaa ?_; intro G_; obtain ⟨xs,h1,h2⟩:=h
 exact ⟨xs,s _ _ h1,Paired.mapP h2 fun _ _ q=>q.same s⟩
theorem zf2 {H H':Hp} {ys:List V} {rs:List (List Int)} (s:Same H H') (h:Paired (RowAt H) ys rs) : Paired (RowAt H') ys rs:=Paired.mapP h fun _ _ q=>q.same s
end L2
namespace L2
open PySem PySem.Spec PyProof.Rows
section
variable {X:Cx} {e:Expr} {es:List Expr} {te:TE} {t:TA}
theorem acn (ha:JE X e te) (hr:JA X es t) (hn:Nst e:=by first | exact Nst.comp .. | exact Nst.lam .. | exact Nst.pln (by constructor)) : JA X (e :: es) (zax te t):=⟨zea ha.h hr.h (hn.star _ _),.cons hn hr.pl⟩
theorem zjc {x:Str} {dp pos pos':Pos} (i:Nat) (hN:X.N.Nodup) (he:JE X (.Dict [] [] dp) te) (hi:X.N[i]? = some x:=by rfl) (hx:Loc X.env.scope x:=by first | exact Or.inl rfl | exact Or.inr rfl)
  (hf:X.fn x = true ∨ X.env.scope.names.lookup x = some .local:=by first | exact .inl rfl | exact .inr rfl) : JS X (.Assign [.Name x pos'] (.Dict [] [] dp) pos) (tAsg te (zaL i)):=⟨zh5 hN hi hx he.h rfl hf⟩
end
end L2
namespace Prf
open PySem L2 Wr
abbrev Kn:=List (List Int × Addr × List Bool)
def za7 (kn:Kn) : List (List Key × V):=kn.map fun q=>(q.1.map Sum.inl,.ref q.2.1)
structure KnownAt (H:Hp) (d:Addr) (kn:Kn) : Prop where
 at':Rd H d (.dT (za7 kn))
 nd:(kn.map (·.1)).Nodup
 ne:∀ q ∈ kn,q.1 ≠ []
 lit:∀ q ∈ kn,H q.2.1 = some (.lst (q.2.2.map V.bl))
theorem zeJ {a b:List Int} (h:(a.map Sum.inl:List Key) = b.map Sum.inl) : a = b:=by
 induction a generalizing b with
 | nil=>cases b with | nil=>rfl | cons _ _=>cases h
 | cons x a ih => cases b with
  | nil=>cases h
  | cons y b =>
   simp only [List.map_cons,List.cons.injEq,Sum.inl.injEq] at h
   rw [h.1,ih h.2]
theorem zhi:∀ {kn:Kn} {q:List Int × Addr × List Bool},(kn.map (·.1)).Nodup → q ∈ kn → valV (za7 kn) (q.1.map Sum.inl) = some (.ref q.2.1)
 | [],_,_,h=>by cases h
 | p :: kn, q, nd, h => by
  simp only [List.map_cons,List.nodup_cons] at nd
  rcases List.mem_cons.mp h with rfl | h
  ·exact zcP rfl
  ·refine (zbH fun z=>?_).trans (zhi nd.2 h)
   have e:p.1 = q.1:=zeJ z
   exact nd.1 (by rw [e]; exact List.mem_map_of_mem h)
theorem zgA:∀ {kn:Kn} {r:List Int},r ∉ kn.map (·.1) → valV (za7 kn) (r.map Sum.inl) = none
 | [],_,_=>rfl
 | p :: kn,r,h=>by
  refine (zbH fun z=>?_).trans (zgA fun z=>h (List.mem_cons_of_mem _ z))
  have e:p.1 = r:=zeJ z
  exact h (by rw [List.map_cons,e]; exact List.mem_cons_self)
def KnownAt.tdict {H:Hp} {d:Addr} {kn:Kn} (h:KnownAt H d kn) : TDict H d (za7 kn) (kn.map (·.1)):=⟨h.at',by unfold za7; rw [List.map_map,List.map_map]; rfl,fun k hk=>by obtain ⟨q,h1,rfl⟩:=List.mem_map.mp hk; exact h.ne q h1⟩
theorem Rd.same {H H':Hp} {a:Addr} {u:HO} (s:Same H H') (h:Rd H a u) : Rd H' a u:=h.imp (s _ _) (by rintro ⟨o,e⟩; exact ⟨o,s _ _ e⟩)
theorem KnownAt.same {H H':Hp} {d:Addr} {kn:Kn} (s:Same H H') (h:KnownAt H d kn) : KnownAt H' d kn:=⟨Rd.same s h.at',h.nd,h.ne,fun q hq=>s _ _ (h.lit q hq)⟩
theorem zep:∀ {l m:List (List Int)},l.Perm m → (l.Pairwise fun a b=>lexI b a = false) → (m.Pairwise fun a b=>lexI b a = false) → l = m
 | [],m,p,_,_=>p.symm.eq_nil.symm
 | x :: l,[],p,_,_=>by have:=p.eq_nil; cases this
 | x :: l, y :: m, p, h1, h2 => by
  obtain ⟨a1,a2⟩:=List.pairwise_cons.mp h1
  obtain ⟨b1,b2⟩:=List.pairwise_cons.mp h2
  have e:x = y:=by
   rcases List.mem_cons.mp (p.mem_iff.mp List.mem_cons_self) with z | z
   ·exact z
   ·rcases List.mem_cons.mp (p.symm.mem_iff.mp (List.mem_cons_self:y ∈ y :: m)) with w | w
    ·exact w.symm
    ·exact zcY (b1 x z) (a1 y w)
  subst e
  rw [zep (List.Perm.cons_inv p) a2 b2]
def zaG (kn:Kn) (k:Nat) (r:List Int) : Bool:=((((kn.find? fun q=>decide (q.1 = r)).map (·.2.2)).getD [])[k]?).getD false
theorem zlj:∀ {kn:Kn} {q:List Int × Addr × List Bool},(kn.map (·.1)).Nodup → q ∈ kn → ∀ k,zaG kn k q.1 = (q.2.2[k]?).getD false
 | [],_,_,h,_=>by cases h
 | p :: kn, q, nd, h, k => by
  simp only [List.map_cons,List.nodup_cons] at nd
  rcases List.mem_cons.mp h with rfl | h
  ·simp [zaG]
  ·have e:p.1 ≠ q.1:=fun z=>nd.1 (by rw [z]; exact List.mem_map_of_mem h)
   have:=zlj nd.2 h k
   unfold zaG at *
   rw [List.find?_cons,decide_eq_false e]
   exact this
def dEnt (e:List Int × List Stt) : PyData:=.tuple [dRow e.1,.list (e.2.map dS)]
theorem EntAt.den {K:PySem.W.Frag} {H:Hp} {v:V} {e:List Int × List Stt} (h:EntAt H v e) : Den K H v (dEnt e):=by
 refine zaa ?_; intro G_; obtain ⟨t,p,q,rfl,h2,h3,h4⟩:=h
 exact .tup (SqT.of h2) (.cons (RowAt.den ⟨p,rfl,h3⟩) (.cons h4.den .nil))
theorem zbz {K:PySem.W.Frag} {H:Hp} : ∀ {vs:List V} {es:List (List Int × List Stt)},Paired (EntAt H) vs es → DenAll K H vs (es.map dEnt):=by
 intro vs es p
 induction p with
 | nil=>exact .nil
 | cons r t ih=>exact .cons (EntAt.den r) ih
theorem zh1 (ss:List Stt) : PyData.canLay0 (.list (ss.map dS)) = true ∧ PyData.depth (.list (ss.map dS)) ≤ 2:=by
 have h1:∀ o,(dO o).canLay0 = true ∧ (dO o).depth = 0:=fun o=>by cases o <;> simp [dO,PyData.canLay0,PyData.depth]
 have all:∀ ss:List Stt,PyData.canLayAll0 (ss.map dS) = true ∧ PyData.depthAll (ss.map dS) ≤ 1:=by
  intro ss
  induction ss with
  | nil=>simp [PyData.canLayAll0,PyData.depthAll]
  | cons s ss ih =>
   have e1:=h1 s.1
   have e2:=h1 s.2
   rw [List.map_cons]
   simp only [PyData.canLayAll0,PyData.depthAll,dS,PyData.canLay0,PyData.depth,e1,e2,ih.1]
   refine ⟨by simp,?_⟩
   have:=ih.2
   lia
 have:=all ss
 simp only [PyData.canLay0,PyData.depth,this.1,true_and]
 lia
theorem zer:∀ es:List (List Int × List Stt),PyData.canLayAll0 (es.map dEnt) = true ∧ PyData.depthAll (es.map dEnt) ≤ 3
 | []=>by simp [PyData.canLayAll0,PyData.depthAll]
 | e :: es => by
  have ih:=zer es
  have e1:=zex e.1
  have e2:=zh1 e.2
  have d1:PyData.depth (dRow e.1) = 1:=by simp [dRow,PyData.depth,e1.2]
  have c1:PyData.canLay0 (dRow e.1) = true:=by simp [dRow,PyData.canLay0,e1.1]
  have d2:PyData.depth (dEnt e) ≤ 3:=by
   simp only [dEnt,PyData.depth,PyData.depthAll,d1]
   have:=e2.2
   simp only [PyData.depth] at this
   lia
  have c2:PyData.canLay0 (dEnt e) = true:=by
   have:=e2.1
   simp only [dEnt,PyData.canLay0,PyData.canLayAll0,c1,Bool.true_and,Bool.and_true] at this ⊢
   exact this
  rw [List.map_cons]
  simp only [PyData.canLayAll0,PyData.depthAll,c2,ih.1]
  exact ⟨rfl,by have:=ih.2; lia⟩
theorem zaN (es:List (List Int × List Stt)) : SeqAt.shaped (.list (es.map dEnt)) = true:=by
 have e:=zer es
 unfold SeqAt.shaped
 simp only [PyData.canLay0,PyData.depth,e.1,Bool.true_and]
 exact decide_eq_true (by have:=e.2; lia)
theorem zgX:∀ es:List (List Int × List Stt),PyData.eqvAll (es.map dEnt) (es.map dEnt) = true
 | []=>by simp [PyData.eqvAll]
 | e :: es=>by
  have h1:=zkT e.2 e.2
  have h2:=zfR e.1 e.1
  simp only [PyData.eqv,decide_true] at h1
  simp only [decide_true] at h2
  simp [PyData.eqvAll,dEnt,PyData.eqv,dRow,h1,h2,zgX es]
theorem zcU (es:List (List Int × List Stt)) : PyData.eqv (.list (es.map dEnt)) (.list (es.map dEnt)) = true:=by rw [PyData.eqv]; exact zgX es
theorem zlB (n:Nat) : List.replicate n (V.bl false) = (List.replicate n false).map V.bl:=by simp
structure KnI (H2 H':Hp) (d:Addr) (n:Nat) (kn:Kn) : Prop where
 at':H' d = some (.dT (za7 kn))
 nd:(kn.map (·.1)).Nodup
 ne:∀ q ∈ kn,q.1 ≠ []
 lit:∀ q ∈ kn,H' q.2.1 = some (.lst (q.2.2.map V.bl))
 ad:(kn.map (·.2.1)).Nodup
 len:∀ q ∈ kn,q.2.2.length = n + 1
 fresh:∀ q ∈ kn,H2 q.2.1 = none
 same:Same H2 H'
 dn:H2 d = none
def EntX (H:Hp) (l:Addr) (v:V) (e:List Int × List Stt) : Prop:=∃ t p q,v = .ref t ∧ H t = some (.tup [.ref p,.ref q]) ∧ H p = some (.tup (e.1.map V.int)) ∧ SpanAt H q e.2 ∧ q ≠ l
theorem EntX.ent {H:Hp} {l:Addr} {v:V} {e:List Int × List Stt} (h:EntX H l v e) : EntAt H v e:=let ⟨t,p,q,a,b,c,d,_⟩:=h; ⟨t,p,q,a,b,c,d⟩
theorem EntX.wr {H:Hp} {l:Addr} {o:HO} {v:V} {e:List Int × List Stt} (hl:∀ xs,H l ≠ some (.tup xs)) (h:EntX H l v e) : EntX (upd H l o) l v e:=by
 refine zaa ?_; intro G_; obtain ⟨t,p,q,a,b,c,d,f⟩:=h
 exact ⟨t,p,q,a,by rw [zad (fun z=>hl _ (by rw [← z]; exact b))]; exact b,by rw [zad (fun z=>hl _ (by rw [← z]; exact c))]; exact c,d.wr hl f,f⟩
def zmx (kn:Kn) (g:List Int) (e:List Int × List Stt) : Prop:=∃ q ∈ kn,q.1 = e.1 ∧ Can e.2 ∧ e.2.length ≤ 50 ∧ ∀ m,zag m e.2 = (q.2.2[zan g m]?).getD false
theorem KnI.sm {H2 H' H'':Hp} {d:Addr} {n:Nat} {kn:Kn} (h:KnI H2 H' d n kn) (s:Same H' H'') : KnI H2 H'' d n kn:=⟨s _ _ h.at',h.nd,h.ne,fun q hq=>s _ _ (h.lit q hq),h.ad,h.len,h.fresh,h.same.trans s,h.dn⟩
theorem KnI.known {H2 H':Hp} {d:Addr} {n:Nat} {kn:Kn} (h:KnI H2 H' d n kn) : KnownAt H' d kn:=⟨.inl h.at',h.nd,h.ne,h.lit⟩
theorem KnI.add {H2 H':Hp} {d D:Addr} {n:Nat} {kn:Kn} {row:List Int} {l:List Bool} (h:KnI H2 H' d n kn) (hr:row ∉ kn.map (·.1)) (ne:row ≠ []) (hD:H' D = some (.lst (l.map V.bl))) (hl:l.length = n + 1) (fr:H2 D = none) (hn:D ∉ kn.map (·.2.1)) :
  KnI H2 (upd H' d (.dT (putK (za7 kn) (row.map Sum.inl) (.ref D)))) d n (kn ++ [(row,D,l)]):=by
 have dD:D ≠ d:=fun z=>by rw [z,h.at'] at hD; cases hD
 have dq:∀ q ∈ kn,q.2.1 ≠ d:=fun q hq z=>by have:=h.lit q hq; rw [z,h.at'] at this; cases this
 refine ⟨?_,?_,fun q hq=>?_,fun q hq=>?_,?_,fun q hq=>?_,fun q hq=>?_,h.same.upd h.dn,h.dn⟩
 ·rw [zab,zhp _ (zgA hr)]; unfold za7; rw [List.map_append]; rfl
 ·rw [List.map_append]; exact List.nodup_append.mpr ⟨h.nd,by simp,fun x hx y hy z=>hr ((show y = row from by simpa using hy) ▸ z ▸ hx)⟩
 ·rcases List.mem_append.mp hq with z | z
  ·exact h.ne q z
  ·rw [List.mem_singleton.mp z]; exact ne
 ·rcases List.mem_append.mp hq with z | z
  ·rw [zad (dq q z)]; exact h.lit q z
  ·rw [List.mem_singleton.mp z]; show upd H' d _ D = _; rw [zad dD]; exact hD
 ·rw [List.map_append]; exact List.nodup_append.mpr ⟨h.ad,by simp,fun x hx y hy z=>hn ((show y = D from by simpa using hy) ▸ z ▸ hx)⟩
 ·rcases List.mem_append.mp hq with z | z
  ·exact h.len q z
  ·rw [List.mem_singleton.mp z]; exact hl
 ·rcases List.mem_append.mp hq with z | z
  ·exact h.fresh q z
  ·rw [List.mem_singleton.mp z]; exact fr
def zof (H:Hp) (a l:Addr) (es:List (List Int × List Stt)) : Prop:=∃ xs,H a = some (.lst xs) ∧ Paired (EntX H l) xs es ∧ a ≠ l
theorem zg6:∀ {es es':List (List Int × List Stt)},es.map (·.1) = es'.map (·.1) → (∀ e ∈ es,∀ e' ∈ es',e.1 = e'.1 → e.2 = e'.2) → es = es'
 | [],[],_,_=>rfl
 | [],_ :: _,h,_=>by cases h
 | _ :: _,[],h,_=>by cases h
 | e :: es,e' :: es',h,k=>by
  simp only [List.map_cons,List.cons.injEq] at h
  have h2:=k e List.mem_cons_self e' List.mem_cons_self h.1
  rw [zg6 h.2 fun x hx y hy=>k x (List.mem_cons_of_mem _ hx) y (List.mem_cons_of_mem _ hy)]
  obtain ⟨a,b⟩:=e
  obtain ⟨c,d⟩:=e'
  have q1:a = c:=h.1
  have q2:b = d:=h2
  rw [q1,q2]
theorem zj1 {kn:Kn} {g:List Int} {e:List Int × List Stt} (nd:(kn.map (·.1)).Nodup) (h:zmx kn g e) (m:Int) : zag m e.2 = zaG kn (zan g m) e.1:=by
 obtain ⟨q,hq,e1,_,_,e2⟩:=h
 rw [e2 m,← e1,zlj nd hq]
end Prf
namespace Wr
def okB (s:Stt) : Bool:=match s.1,s.2 with
 | some a,some b=>decide (a < b)
 | _,_=>true
theorem zi2 {s:Stt} : okB s = true ↔ okS s:=by
 obtain ⟨a,b⟩:=s
 cases a with
 | none=>exact ⟨fun _ x y h _=>(nomatch h),fun _=>rfl⟩
 | some a => cases b with
  | none=>exact ⟨fun _ x y _ h=>(nomatch h),fun _=>rfl⟩
  | some b =>
   constructor
   ·intro h x y h1 h2
    cases h1; cases h2
    exact of_decide_eq_true h
   ·intro h
    exact decide_eq_true (h a b rfl rfl)
end Wr
namespace L2
open PySem PySem.Spec PyProof.Rows Wr
abbrev Fact:=List Int × Stt
def FactAt (H:Hp) (v:V) (f:Fact) : Prop:=∃ t p,v = .ref t ∧ H t = some (.tup [.ref p,vO f.2.1,vO f.2.2]) ∧ H p = some (.tup (f.1.map V.int))
theorem FactAt.same {H H':Hp} {v:V} {f:Fact} (s:Same H H') (h:FactAt H v f) : FactAt H' v f:=let ⟨t,p,a,b,c⟩:=h; ⟨t,p,a,s _ _ b,s _ _ c⟩
theorem zhz {H H':Hp} {xs:List V} {fs:List Fact} (s:Same H H') (h:Paired (FactAt H) xs fs) : Paired (FactAt H') xs fs:=Paired.mapP h fun _ _ q=>q.same s
theorem FactAt.off {H H':Hp} {v:V} {f:Fact} (ft:∀ b xs,H b = some (.tup xs) → H' b = some (.tup xs)) (h:FactAt H v f) : FactAt H' v f:=let ⟨t,p,a,b,c⟩:=h; ⟨t,p,a,ft _ _ b,ft _ _ c⟩
theorem zdL {H H':Hp} {xs:List V} {fs:List Fact} (ft:∀ b xs,H b = some (.tup xs) → H' b = some (.tup xs)) (h:Paired (FactAt H) xs fs) : Paired (FactAt H') xs fs:=Paired.mapP h fun _ _ q=>q.off ft
theorem zbd {H:Hp} {l:Addr} {o:HO} (hl:∀ xs,H l ≠ some (.tup xs)) (b:Addr) (xs:List V) (h:H b = some (.tup xs)) : upd H l o b = some (.tup xs):=by
 rw [zad (fun z=>hl _ (by rw [← z]; exact h))]; exact h
def zbZ:List Fact → Nat
 | []=>0
 | f :: _=>f.1.length
theorem zny {n:Nat} (h:n < 2 ^ 1900) : n.log2 < 1920:=by
 by_cases h0:n = 0
 ·subst h0; decide
 ·exact Nat.lt_of_lt_of_le ((Nat.log2_lt h0).mpr h) (by decide)
theorem zfp {i:Nat} (h:i ≤ 100000) : ((i:Int)).natAbs.log2 < 1920:=by
 rw [Int.natAbs_natCast]
 exact zny (Nat.lt_of_le_of_lt h (by decide))
section
variable {X:Cx}
theorem zll {P:Program} {w:World} : Passes (CXe P w) X E0:=(by rintro _ _ _ _ _ _ _ ⟨_,_,_,_,_,_,_,_,_,h⟩; exact h.elim)
end
end L2
namespace Prf
open PySem L2 Wr
theorem zeb {α β:Type} {f:α → β} : ∀ {l:List α} {a b:α},(l.map f).Nodup → a ∈ l → b ∈ l → f a = f b → a = b
 | [],_,_,_,h,_,_=>nomatch h
 | r :: l, a, b, nd, ha, hb, e => by
  rw [List.map_cons,List.nodup_cons] at nd
  rcases List.mem_cons.mp ha with h1 | h1
  ·rcases List.mem_cons.mp hb with h2 | h2
   ·rw [h1,h2]
   ·exact absurd (by rw [← h1,e]; exact List.mem_map_of_mem h2) nd.1
  ·rcases List.mem_cons.mp hb with h2 | h2
   ·exact absurd (by rw [← h2,← e]; exact List.mem_map_of_mem h1) nd.1
   ·exact zeb nd.2 h1 h2 e
theorem zaP {α:Type} [DecidableEq α] : ∀ {l m:List α},l.Nodup → (∀ x ∈ l,x ∈ m) → l.length ≤ m.length
 | [],_,_,_=>Nat.zero_le _
 | x :: l,m,nd,h=>by
  have hx:=h x List.mem_cons_self
  obtain ⟨n1,n2⟩:=List.nodup_cons.mp nd
  have:=zaP (l:=l) (m:=m.erase x) n2 fun y hy=>(List.mem_erase_of_ne (fun (e:y = x)=>n1 (by rw [← e]; exact hy))).mpr (h y (List.mem_cons_of_mem _ hy))
  rw [List.length_erase_of_mem hx] at this
  have:=List.length_pos_of_mem hx
  simp only [List.length_cons]
  lia
abbrev Td:=List (List Int × Addr × List Stt)
def zcw (td:Td) : List (List Key × V):=td.map fun q=>(q.1.map Sum.inl,.ref q.2.1)
theorem zio:∀ {td:Td} {q:List Int × Addr × List Stt},(td.map (·.1)).Nodup → q ∈ td → valV (zcw td) (q.1.map Sum.inl) = some (.ref q.2.1)
 | [],_,_,h=>nomatch h
 | p :: td,q,nd,h=>by
  rw [List.map_cons,List.nodup_cons] at nd
  rcases List.mem_cons.mp h with rfl | h
  ·exact zcP rfl
  ·exact (zbH fun z=>nd.1 (by rw [show p.1 = q.1 from zeJ z]; exact List.mem_map_of_mem h)).trans (zio nd.2 h)
theorem zgm:∀ {td:Td} {r:List Int},r ∉ td.map (·.1) → valV (zcw td) (r.map Sum.inl) = none
 | [],_,_=>rfl
 | p :: td,r,h=>(zbH fun z=>h (by rw [List.map_cons,show p.1 = r from zeJ z]; exact List.mem_cons_self)).trans (zgm fun z=>h (List.mem_cons_of_mem _ z))
def told (fs:List Fact) (r:List Int) : List Stt:=(fs.filter fun f=>decide (f.1 = r)).map (·.2)
theorem zjt {fs:List Fact} {f:Fact} {r:List Int} : told (fs ++ [f]) r = told fs r ++ (if f.1 = r then [f.2] else []):=by
 unfold told
 rw [List.filter_append,List.map_append]
 by_cases h:f.1 = r <;> simp [h]
theorem zkS {fs:List Fact} {r:List Int} (h:r ∉ fs.map (·.1)) : told fs r = []:=by
 unfold told
 rw [List.filter_eq_nil_iff.mpr,List.map_nil]
 intro f hf z
 exact h (by rw [← of_decide_eq_true z]; exact List.mem_map_of_mem hf)
theorem zcF {fs:List Fact} {r:List Int} {s:Stt} : s ∈ told fs r ↔ (r,s) ∈ fs:=by
 unfold told
 simp only [List.mem_map,List.mem_filter,decide_eq_true_eq]
 constructor
 ·rintro ⟨⟨a,b⟩,⟨h1,h2⟩,h3⟩
  have e1:a = r:=h2
  have e2:b = s:=h3
  rw [← e1,← e2]; exact h1
 ·intro h
  exact ⟨(r,s),⟨h,rfl⟩,rfl⟩
structure TdI (H2 H':Hp) (d:Addr) (fs:List Fact) (td:Td) (ex:List (List Int)) : Prop where
 at':H' d = some (.dT (zcw td))
 nd:(td.map (·.1)).Nodup
 ne:∀ q ∈ td,q.1 ≠ []
 lst:∀ q ∈ td,SpanAt H' q.2.1 q.2.2
 ad:(td.map (·.2.1)).Nodup
 fresh:∀ q ∈ td,H2 q.2.1 = none
 same:Same H2 H'
 dn:H2 d = none
 grp:∀ q ∈ td,q.2.2 = told fs q.1
 rows:∀ r,r ∈ td.map (·.1) ↔ r ∈ fs.map (·.1) ∨ r ∈ ex
theorem TdI.sm {H2 H' H'':Hp} {d:Addr} {fs:List Fact} {td:Td} {ex:List (List Int)} (h:TdI H2 H' d fs td ex) (s:Same H' H'') : TdI H2 H'' d fs td ex :=
 ⟨s _ _ h.at',h.nd,h.ne,fun q hq=>(h.lst q hq).same s,h.ad,h.fresh,h.same.trans s,h.dn,h.grp,h.rows⟩
theorem TdI.known {H2 H':Hp} {d:Addr} {fs:List Fact} {td:Td} {ex:List (List Int)} (h:TdI H2 H' d fs td ex) : TDict H' d (zcw td) (td.map (·.1)) :=
 ⟨.inl h.at',by unfold zcw; rw [List.map_map,List.map_map]; rfl,fun k hk=>by obtain ⟨q,h1,rfl⟩:=List.mem_map.mp hk; exact h.ne q h1⟩
theorem TdI.add {H2 H':Hp} {d D:Addr} {fs:List Fact} {td:Td} {row:List Int} (h:TdI H2 H' d fs td []) (hr:row ∉ td.map (·.1)) (ne:row ≠ []) (hD:H' D = some (.lst [])) (fr:H2 D = none) (hn:D ∉ td.map (·.2.1)) :
  TdI H2 (upd H' d (.dT (putK (zcw td) (row.map Sum.inl) (.ref D)))) d fs (td ++ [(row,D,[])]) [row]:=by
 have dD:D ≠ d:=fun z=>by rw [z,h.at'] at hD; cases hD
 have dq:∀ q ∈ td,q.2.1 ≠ d:=fun q hq z=>by obtain ⟨_,e,_⟩:=h.lst q hq; rw [z,h.at'] at e; cases e
 have nt:∀ xs,H' d ≠ some (.tup xs):=fun xs z=>by rw [h.at'] at z; cases z
 refine ⟨?_,?_,fun q hq=>?_,fun q hq=>?_,?_,fun q hq=>?_,h.same.upd h.dn,h.dn,fun q hq=>?_,fun r=>?_⟩
 ·rw [zab,zhp _ (zgm hr)]; unfold zcw; rw [List.map_append]; rfl
 ·rw [List.map_append]; exact List.nodup_append.mpr ⟨h.nd,by simp,fun x hx y hy z=>hr ((show y = row from by simpa using hy) ▸ z ▸ hx)⟩
 ·rcases List.mem_append.mp hq with z | z
  ·exact h.ne q z
  ·rw [List.mem_singleton.mp z]; exact ne
 ·rcases List.mem_append.mp hq with z | z
  ·exact (h.lst q z).wr nt (dq q z)
  ·rw [List.mem_singleton.mp z]
   exact ⟨[],by show upd H' d _ D = _; rw [zad dD]; exact hD,.nil⟩
 ·rw [List.map_append]; exact List.nodup_append.mpr ⟨h.ad,by simp,fun x hx y hy z=>hn ((show y = D from by simpa using hy) ▸ z ▸ hx)⟩
 ·rcases List.mem_append.mp hq with z | z
  ·exact h.fresh q z
  ·rw [List.mem_singleton.mp z]; exact fr
 ·rcases List.mem_append.mp hq with z | z
  ·exact h.grp q z
  ·rw [List.mem_singleton.mp z]
   refine (zkS fun z=>hr ((h.rows row).mpr (.inl z))).symm
 ·rw [List.map_append,List.mem_append,h.rows]
  simp
theorem TdI.app {H2 H':Hp} {d u:Addr} {fs:List Fact} {td:Td} {ex:List (List Int)} {q:List Int × Addr × List Stt} {st:Stt} {xs:List V} (h:TdI H2 H' d fs td ex) (hq:q ∈ td) (hex:∀ r ∈ ex,r = q.1) (hx:H' q.2.1 = some (.lst xs)) (hs:StsAt H' xs q.2.2)
  (hu:H' u = some (.tup [vO st.1,vO st.2])) : TdI H2 (upd H' q.2.1 (.lst (xs ++ [.ref u]))) d (fs ++ [(q.1,st)]) (td.map fun p=>if p.2.1 = q.2.1 then (p.1,p.2.1,p.2.2 ++ [st]) else p) []:=by
 have dq:d ≠ q.2.1:=fun z=>by rw [← z,h.at'] at hx; cases hx
 have nt:=za3 hx
 have e1:∀ p:List Int × Addr × List Stt,(if p.2.1 = q.2.1 then (p.1,p.2.1,p.2.2 ++ [st]) else p).1 = p.1:=fun p=>by split <;> rfl
 have e2:∀ p:List Int × Addr × List Stt,(if p.2.1 = q.2.1 then (p.1,p.2.1,p.2.2 ++ [st]) else p).2.1 = p.2.1:=fun p=>by split <;> rfl
 have m1:((td.map fun p=>if p.2.1 = q.2.1 then (p.1,p.2.1,p.2.2 ++ [st]) else p).map (·.1)) = td.map (·.1):=by rw [List.map_map]; exact List.map_congr_left fun p _=>e1 p
 have m2:((td.map fun p=>if p.2.1 = q.2.1 then (p.1,p.2.1,p.2.2 ++ [st]) else p).map (·.2.1)) = td.map (·.2.1):=by rw [List.map_map]; exact List.map_congr_left fun p _=>e2 p
 have m3:zcw (td.map fun p=>if p.2.1 = q.2.1 then (p.1,p.2.1,p.2.2 ++ [st]) else p) = zcw td:=by unfold zcw; rw [List.map_map]; exact List.map_congr_left fun p _=>by show (_,_) = (_,_); rw [e1,e2]
 refine ⟨by rw [zad dq,m3]; exact h.at',by rw [m1]; exact h.nd,fun p hp=>?_,fun p hp=>?_,by rw [m2]; exact h.ad,fun p hp=>?_,h.same.upd (h.fresh q hq),h.dn,fun p hp=>?_,fun r=>?_⟩
 ·obtain ⟨p,hp1,rfl⟩:=List.mem_map.mp hp; rw [e1]; exact h.ne p hp1
 ·obtain ⟨p,hp1,rfl⟩:=List.mem_map.mp hp
  rw [e2]
  by_cases z:p.2.1 = q.2.1
  ·rw [if_pos z,zeb h.ad hp1 hq z]
   refine ⟨_,zab,zak (R:=StAt (upd H' q.2.1 (.lst (xs ++ [.ref u])))) ⟨u,rfl,zbd nt _ _ hu⟩ (StsAt.wr nt hs)⟩
  ·rw [if_neg z]; exact (h.lst p hp1).wr nt z
 ·obtain ⟨p,hp1,rfl⟩:=List.mem_map.mp hp; rw [e2]; exact h.fresh p hp1
 ·obtain ⟨p,hp1,rfl⟩:=List.mem_map.mp hp
  rw [e1,zjt,← h.grp p hp1]
  by_cases z:p.2.1 = q.2.1
  ·rw [if_pos z,zeb h.ad hp1 hq z,if_pos rfl]
  ·rw [if_neg z,if_neg,List.append_nil]
   intro z'
   have:p = q:=zeb h.nd hp1 hq z'.symm
   exact z (by rw [this])
 ·rw [m1,h.rows,List.map_append,List.mem_append]
  have hqr:=(h.rows q.1).mp (List.mem_map_of_mem hq)
  constructor
  ·rintro (z | z)
   ·exact .inl (.inl z)
   ·exact .inl (.inr (by rw [hex r z]; simp))
  ·rintro ((z | z) | z)
   ·exact .inl z
   ·have:r = q.1:=by simpa using z
    rw [this]; exact hqr
   ·cases z
def EntN (H H':Hp) (D:Addr) (v:V) (e:List Int × List Stt) : Prop:=∃ t p q,v = .ref t ∧ H' t = some (.tup [.ref p,.ref q]) ∧ H' p = some (.tup (e.1.map V.int)) ∧ SpanAt H' q e.2 ∧ H q = none ∧ q ≠ D
def SheetN (H H':Hp) (D:Addr) (es:List (List Int × List Stt)) : Prop:=∃ xs,H' D = some (.lst xs) ∧ Paired (EntN H H' D) xs es
theorem SheetN.at' {H H':Hp} {D:Addr} {es:List (List Int × List Stt)} (h:SheetN H H' D es) : SheetAt H' D es:=let ⟨xs,a,b⟩:=h; ⟨xs,a,Paired.mapP b (by rintro _ _ ⟨t,p,q,x1,x2,x3,x4,_⟩; exact ⟨t,p,q,x1,x2,x3,x4⟩)⟩
structure ShOf (fs:List Fact) (es:List (List Int × List Stt)) : Prop where
 ord:(es.map (·.1)).Pairwise fun a b=>lexI b a = false
 nd:(es.map (·.1)).Nodup
 rows:∀ r,r ∈ es.map (·.1) ↔ r ∈ fs.map (·.1)
 can:∀ e ∈ es,Can e.2
 few:∀ e ∈ es,e.2.length ≤ 63
 sp:∀ e ∈ es,∀ m,zag m e.2 = zag m (told fs e.1)
end Prf
namespace L2
open PySem
theorem zjM {t u:TS} {D:Ends} {σ:St} {H:Hp} (J:St → Hp → Prop) (h2:∀ σ' H',J σ' H' → u D σ' H') (h1:∀ N:St → Hp → Prop,(∀ σ' H',J σ' H' → N σ' H') → t { D with nx:=N } σ H) : tSeq t u D σ H:=h1 (u D) h2
theorem zff {r:Int} {n:Nat} (h:0 < n) : ∃ k:Nat,r % (n:Int) = (k:Int) ∧ k < n:=by
 have h1:=Int.emod_nonneg r (show (n:Int) ≠ 0 by lia)
 have h2:=Int.emod_lt_of_pos r (show (0:Int) < n by lia)
 exact ⟨(r % (n:Int)).toNat,by lia,by lia⟩
theorem zmQ {n k:Nat} (h:k < n) : ixN n (k:Int) = some k:=by
 unfold ixN
 rw [if_pos (by lia),if_pos (by lia)]
 simp
end L2
namespace Prf
open PySem L2 Wr
def setR (v:Bool) (l:List Bool) (f:Nat) : Nat → List Bool
 | 0=>l
 | i + 1=>(setR v l f i).set (f + i) v
theorem zhr {v:Bool} {l:List Bool} {f:Nat} : ∀ i,(setR v l f i).length = l.length
 | 0=>rfl
 | i + 1=>by rw [setR,List.length_set]; exact zhr i
theorem zgT {v:Bool} {l:List Bool} {f k:Nat} (hk:k < l.length) : ∀ i,((setR v l f i)[k]?).getD false = if f ≤ k ∧ k < f + i then v else (l[k]?).getD false
 | 0=>by rw [if_neg (by lia)]; rfl
 | i + 1 => by
  have ih:=zgT (v:=v) (f:=f) hk i
  rw [setR,List.getElem?_set]
  by_cases e:f + i = k
  ·subst e
   rw [if_pos rfl,zhr,if_pos hk,if_pos (by lia)]
   rfl
  ·rw [if_neg e,ih]
   by_cases h:f ≤ k ∧ k < f + i
   ·rw [if_pos h,if_pos (by lia)]
   ·rw [if_neg h,if_neg (by lia)]
def knR (v:Bool) (kn:Kn) (a:Addr) (f i:Nat) : Kn:=kn.map fun p=>if p.2.1 = a then (p.1,p.2.1,setR v p.2.2 f i) else p
theorem zhn {v:Bool} {kn:Kn} {a:Addr} {f i:Nat} : (knR v kn a f i).map (·.1) = kn.map (·.1):=by
 unfold knR; rw [List.map_map]; exact List.map_congr_left fun p _=>by show (if _ then _ else _:List Int × Addr × List Bool).1 = _; split <;> rfl
theorem zl7 {v:Bool} {kn:Kn} {q:List Int × Addr × List Bool} {f i:Nat} (h:q ∈ kn) : (q.1,q.2.1,setR v q.2.2 f i) ∈ knR v kn q.2.1 f i:=List.mem_map.mpr ⟨q,h,by rw [if_pos rfl]⟩
theorem KnI.setV {H2 H':Hp} {d:Addr} {n:Nat} {kn:Kn} {q:List Int × Addr × List Bool} (v:Bool) (h:KnI H2 H' d n kn) (hq:q ∈ kn) (j:Nat) :
  KnI H2 (upd H' q.2.1 (.lst ((q.2.2.set j v).map V.bl))) d n (kn.map fun p=>if p.2.1 = q.2.1 then (p.1,p.2.1,p.2.2.set j v) else p):=by
 have dq:d ≠ q.2.1:=fun z=>by have:=h.lit q hq; rw [← z,h.at'] at this; cases this
 have e1:∀ p:List Int × Addr × List Bool,(if p.2.1 = q.2.1 then (p.1,p.2.1,p.2.2.set j v) else p).1 = p.1:=fun p=>by split <;> rfl
 have e2:∀ p:List Int × Addr × List Bool,(if p.2.1 = q.2.1 then (p.1,p.2.1,p.2.2.set j v) else p).2.1 = p.2.1:=fun p=>by split <;> rfl
 have m1:((kn.map fun p=>if p.2.1 = q.2.1 then (p.1,p.2.1,p.2.2.set j v) else p).map (·.1)) = kn.map (·.1):=by rw [List.map_map]; exact List.map_congr_left fun p _=>e1 p
 have m2:((kn.map fun p=>if p.2.1 = q.2.1 then (p.1,p.2.1,p.2.2.set j v) else p).map (·.2.1)) = kn.map (·.2.1):=by rw [List.map_map]; exact List.map_congr_left fun p _=>e2 p
 have m3:za7 (kn.map fun p=>if p.2.1 = q.2.1 then (p.1,p.2.1,p.2.2.set j v) else p) = za7 kn:=by unfold za7; rw [List.map_map]; exact List.map_congr_left fun p _=>by show (_,_) = (_,_); rw [e1,e2]
 refine ⟨by rw [zad dq,m3]; exact h.at',by rw [m1]; exact h.nd,fun p hp=>?_,fun p hp=>?_,by rw [m2]; exact h.ad,fun p hp=>?_,fun p hp=>?_,h.same.upd (h.fresh q hq),h.dn⟩
 ·obtain ⟨p,hp1,rfl⟩:=List.mem_map.mp hp; rw [e1]; exact h.ne p hp1
 ·obtain ⟨p,hp1,rfl⟩:=List.mem_map.mp hp
  rw [e2]
  by_cases z:p.2.1 = q.2.1
  ·rw [if_pos z,zeb h.ad hp1 hq z,zab]
  ·rw [if_neg z,zad z]; exact h.lit p hp1
 ·obtain ⟨p,hp1,rfl⟩:=List.mem_map.mp hp
  split
  ·rw [List.length_set]; exact h.len p hp1
  ·exact h.len p hp1
 ·obtain ⟨p,hp1,rfl⟩:=List.mem_map.mp hp; rw [e2]; exact h.fresh p hp1
theorem zgM {α β:Type} {R S:α → β → Prop} : ∀ {xs:List α} {ys:List β},Paired R xs ys → (∀ x y,y ∈ ys → R x y → S x y) → Paired S xs ys:=by
 intro xs ys p
 induction p with
 | nil=>intro f; exact .nil
 | cons r t ih=>intro f; exact .cons (f _ _ List.mem_cons_self r) (ih fun x y h q=>f x y (List.mem_cons_of_mem _ h) q)
theorem zgs {fs:List Fact} {L:Nat} (h:∀ f ∈ fs,f.1.length = L) : ∀ f ∈ fs,f.1.length = zbZ fs:=by
 intro f hf
 cases fs with
 | nil=>cases hf
 | cons x fs=>rw [h f hf]; exact (h x List.mem_cons_self).symm
theorem zkH (fs:List Fact) (r:List Int) : (told fs r).length ≤ fs.length:=by unfold told; rw [List.length_map]; exact List.length_filter_le _ _
end Prf
namespace L2
open PySem PySem.Spec PyProof.Rows
section
variable {X:Cx} {a b:Expr} {ta tb:TE} {pos:Pos}
theorem t_in (ha:JE X a ta) (hb:JE X b tb) (hm:∀ r,behindInMarks .In b = r → r = false:=by intro _ h; exact h ▸ rfl) : JT X (.Compare a [.In] [b] pos) (zhI (tOp (rIn X.K false) ta tb)):=⟨ziu ziG ha.h hb.h (hm _ rfl)⟩
end
end L2
namespace Prf
open PySem L2 Wr
abbrev Ent:=List Int × List Stt
structure ShB (φ:List Int → Int → Bool) (es:List Ent) : Prop where
 ord:(es.map (·.1)).Pairwise fun a b=>lexI b a = false
 nd:(es.map (·.1)).Nodup
 can:∀ e ∈ es,Can e.2
 sp:∀ e ∈ es,∀ m,zag m e.2 = φ e.1 m
 all:∀ r m,φ r m = true → r ∈ es.map (·.1)
 non:∀ e ∈ es,∃ m,φ e.1 m = true
theorem ShB.uniq {φ ψ:List Int → Int → Bool} {es es':List Ent} (h:ShB φ es) (h':ShB ψ es') (e:∀ r m,φ r m = ψ r m) : es = es':=by
 have sub:∀ {φ ψ:List Int → Int → Bool} {es es':List Ent},ShB φ es → ShB ψ es' → (∀ r m,φ r m = ψ r m) → ∀ r,r ∈ es.map (·.1) → r ∈ es'.map (·.1):=fun {φ ψ es es'} h h' e r hr=>by
  refine zaa ?_; intro G_; obtain ⟨x,hx,rfl⟩:=List.mem_map.mp hr
  obtain ⟨m,hm⟩:=h.non x hx
  exact h'.all _ m (by rw [← e]; exact hm)
 refine zg6 (zep ((List.perm_ext_iff_of_nodup h.nd h'.nd).mpr fun r=>⟨sub h h' e r,sub h' h (fun r m=>(e r m).symm) r⟩) h.ord h'.ord) fun x hx x' hx' eq=>?_
 exact zjv (h.can x hx) (h'.can x' hx') fun m=>by rw [h.sp x hx,h'.sp x' hx',eq,e]
theorem ShB.imp {φ ψ:List Int → Int → Bool} {es:List Ent} (h:ShB φ es) (e:∀ r m,φ r m = ψ r m) : ShB ψ es:=by
 have:φ = ψ:=funext fun r=>funext fun m=>e r m
 rw [← this]; exact h
theorem zla {s:Stt} (h:okS s) : ∃ m,inS m s = true:=by
 obtain ⟨m,hm⟩:=zbN (r:=[]) h
 exact ⟨m,by simpa [zag] using hm⟩
theorem ShOf.shB {fs:List Fact} {es:List Ent} (h:ShOf fs es) (ok:∀ f ∈ fs,okS f.2) : ShB (fun r m=>zag m (told fs r)) es:=by
 refine ⟨h.ord,h.nd,h.can,h.sp,fun r m hm=>?_,fun e he=>?_⟩
 ·refine zaa ?_; intro G_; obtain ⟨s,hs,_⟩:=List.any_eq_true.mp hm
  exact (h.rows r).mpr (List.mem_map.mpr ⟨(r,s),zcF.mp hs,rfl⟩)
 ·refine zaa ?_; intro G_; obtain ⟨f,hf,ef⟩:=List.mem_map.mp ((h.rows e.1).mp (List.mem_map_of_mem he))
  obtain ⟨m,hm⟩:=zla (ok f hf)
  exact ⟨m,List.any_eq_true.mpr ⟨f.2,zcF.mpr (by rw [← ef]; exact hf),hm⟩⟩
def zap (es:List Ent) : List Fact:=es.flatMap fun e=>e.2.map fun s=>(e.1,s)
theorem zbU {es:List Ent} {f:Fact} : f ∈ zap es ↔ ∃ e ∈ es,f.1 = e.1 ∧ f.2 ∈ e.2:=by
 unfold zap
 rw [List.mem_flatMap]
 constructor
 ·rintro ⟨e,he,hf⟩
  refine zaa ?_; intro G_; obtain ⟨s,hs,rfl⟩:=List.mem_map.mp hf
  exact ⟨e,he,rfl,hs⟩
 ·rintro ⟨e,he,h1,h2⟩
  exact ⟨e,he,List.mem_map.mpr ⟨f.2,h2,by rw [← h1]⟩⟩
theorem zfD {es:List Ent} {r:List Int} {m:Int} : zag m (told (zap es) r) = true ↔ ∃ e ∈ es,e.1 = r ∧ zag m e.2 = true:=by
 constructor
 ·intro h
  refine zaa ?_; intro G_; obtain ⟨s,hs,hm⟩:=List.any_eq_true.mp h
  refine zaa ?_; intro G_; obtain ⟨e,he,h1,h2⟩:=zbU.mp (zcF.mp hs)
  exact ⟨e,he,h1.symm,List.any_eq_true.mpr ⟨s,h2,hm⟩⟩
 ·rintro ⟨e,he,rfl,h⟩
  refine zaa ?_; intro G_; obtain ⟨s,hs,hm⟩:=List.any_eq_true.mp h
  exact List.any_eq_true.mpr ⟨s,zcF.mpr (zbU.mpr ⟨e,he,rfl,hs⟩),hm⟩
theorem zhM {α β:Type} {R:α → β → Prop} : ∀ {xs xs':List α} {ys ys':List β},Paired R xs ys → Paired R xs' ys' → Paired R (xs ++ xs') (ys ++ ys'):=by
 intro xs xs' ys ys' p h
 induction p with
 | nil=>exact h
 | cons r t ih=>exact .cons r ih
theorem SheetN.weak {H0 H H':Hp} {D:Addr} {es:List Ent} (h:SheetN H H' D es) (s:Same H0 H) : SheetN H0 H' D es :=
 let ⟨xs,a,b⟩:=h; ⟨xs,a,Paired.mapP b (by rintro _ _ ⟨t,p,q,x1,x2,x3,x4,x5,x6⟩; exact ⟨t,p,q,x1,x2,x3,x4,s.free x5,x6⟩)⟩
def litOf (kn:Kn) (r:List Int) : List Bool:=((kn.find? fun q=>decide (q.1 = r)).map (·.2.2)).getD []
def hasT (kn:Kn) (r:List Int) : Bool:=(litOf kn r).any id
theorem zba (kn:Kn) (k:Nat) (r:List Int) : zaG kn k r = ((litOf kn r)[k]?).getD false:=rfl
theorem zcl:∀ {kn:Kn} {q:List Int × Addr × List Bool},(kn.map (·.1)).Nodup → q ∈ kn → litOf kn q.1 = q.2.2
 | [],_,_,h=>nomatch h
 | p :: kn, q, nd, h => by
  rw [List.map_cons,List.nodup_cons] at nd
  rcases List.mem_cons.mp h with rfl | h
  ·simp [litOf]
  ·have e:p.1 ≠ q.1:=fun z=>nd.1 (by rw [z]; exact List.mem_map_of_mem h)
   have:=zcl nd.2 h
   unfold litOf at *
   rw [List.find?_cons,decide_eq_false e]
   exact this
theorem lit_none {kn:Kn} {r:List Int} (h:r ∉ kn.map (·.1)) : litOf kn r = []:=by
 unfold litOf
 rw [List.find?_eq_none.mpr]
 ·rfl
 ·intro q hq z
  exact h (by rw [← of_decide_eq_true z]; exact List.mem_map_of_mem hq)
theorem zj5 (l:List Bool) : inV (.bl true) (l.map V.bl) = l.any id:=by
 unfold inV
 induction l with
 | nil=>rfl
 | cons b l ih =>
  rw [List.map_cons,List.any_cons,List.any_cons,ih]
  cases b <;> rfl
theorem zkA (l:List Bool) : (l.map V.bl).all zeH = true:=by
 induction l with
 | nil=>rfl
 | cons b l ih=>rw [List.map_cons,List.all_cons,ih]; rfl
theorem zkn {g:List Int} (inc:Inc g) {k:Nat} (hk:k ≤ g.length) (h1:1 ≤ g.length) : ∃ m,zan g m = k:=by
 cases k with
 | zero=>exact ⟨g[0] - 1,zgB inc (by simp)⟩
 | succ k=>exact ⟨g[k],zkl inc (by simp)⟩
theorem zlb {l:List Bool} : l.any id = true ↔ ∃ k,k < l.length ∧ (l[k]?).getD false = true:=by
 rw [List.any_eq_true]
 constructor
 ·rintro ⟨b,hb,e⟩
  refine zaa ?_; intro G_; obtain ⟨k,hk,rfl⟩:=List.mem_iff_getElem.mp hb
  exact ⟨k,hk,by simpa [hk] using e⟩
 ·rintro ⟨k,hk,e⟩
  exact ⟨l[k],List.getElem_mem hk,by simpa [hk] using e⟩
theorem zmN {kn:Kn} {g:List Int} {es:List Ent} {ks:List (List Int)} (inc:Inc g) (h1:1 ≤ g.length) (nd:(kn.map (·.1)).Nodup) (len:∀ q ∈ kn,q.2.2.length = g.length + 1) (pm:ks.Perm (kn.map (·.1))) (pw:ks.Pairwise fun a b=>lexI b a = false)
  (em:es.map (·.1) = ks.filter (hasT kn)) (good:∀ e ∈ es,zmx kn g e) : ShB (fun r m=>zaG kn (zan g m) r) es:=by
 refine ⟨by rw [em]; exact pw.sublist List.filter_sublist,by rw [em]; exact (pm.nodup_iff.mpr nd).sublist List.filter_sublist,fun e he=>?_,fun e he m=>zj1 nd (good e he) m,fun r m hm=>?_,fun e he=>?_⟩
 ·refine zaa ?_; intro G_; obtain ⟨_,_,_,x,_⟩:=good e he; exact x
 ·have hr:r ∈ kn.map (·.1):=by
   by_cases z:r ∈ kn.map (·.1)
   ·exact z
   ·rw [zba,lit_none z] at hm
    simp at hm
  rw [em]
  refine List.mem_filter.mpr ⟨pm.mem_iff.mpr hr,zlb.mpr ⟨zan g m,?_,hm⟩⟩
  obtain ⟨q,hq,rfl⟩:=List.mem_map.mp hr
  rw [zcl nd hq,len q hq]
  have:=zaB g m
  lia
 ·have hm:e.1 ∈ ks.filter (hasT kn):=by rw [← em]; exact List.mem_map_of_mem he
  obtain ⟨h2,h3⟩:=List.mem_filter.mp hm
  refine zaa ?_; intro G_; obtain ⟨k,hk,hb⟩:=zlb.mp h3
  refine zaa ?_; intro G_; obtain ⟨q,hq,eq⟩:=List.mem_map.mp (pm.mem_iff.mp h2)
  rw [← eq,zcl nd hq,len q hq] at hk
  obtain ⟨m,em'⟩:=zkn inc (k:=k) (by lia) h1
  exact ⟨m,by rw [em']; exact hb⟩
end Prf
namespace L2
end L2
namespace Prf
open PySem L2 Wr
theorem SheetN.x {H H':Hp} {D l:Addr} {es:List Ent} {o:HO} (h:SheetN H H' D es) (hD:H D = none) (hl:H l = some o) : zof H' D l es:=by
 refine zaa ?_; intro G_; obtain ⟨xs,a,b⟩:=h
 exact ⟨xs,a,Paired.mapP b fun _ _ ⟨t,p,q,x1,x2,x3,x4,x5,x6⟩=>⟨t,p,q,x1,x2,x3,x4,fun z=>by rw [z,hl] at x5; cases x5⟩,fun z=>by rw [z,hl] at hD; cases hD⟩
theorem ShB.ne {φ:List Int → Int → Bool} {es:List Ent} (h:ShB φ es) : ∀ e ∈ es,e.2 ≠ []:=fun e he z=>by
 obtain ⟨m,hm⟩:=h.non e he
 rw [← h.sp e he,z] at hm
 cases hm
theorem zl6 {kn:Kn} {row:List Int} {D:Addr} {n k:Nat} {r:List Int} (hr:row ∉ kn.map (·.1)) : zaG (kn ++ [(row,D,List.replicate n false)]) k r = zaG kn k r:=by
 rw [zba,zba]
 by_cases h:r ∈ kn.map (·.1)
 ·have:litOf (kn ++ [(row,D,List.replicate n false)]) r = litOf kn r:=by
   unfold litOf
   rw [List.find?_append]
   obtain ⟨q,hq,eq⟩:=List.mem_map.mp h
   cases hf:kn.find? fun q=>decide (q.1 = r) with
   | none=>exact absurd (decide_eq_true eq) (List.find?_eq_none.mp hf q hq)
   | some x=>rfl
  rw [this]
 ·rw [lit_none h]
  by_cases z:r = row
  ·subst z
   have:litOf (kn ++ [(r,D,List.replicate n false)]) r = List.replicate n false:=by
    unfold litOf
    rw [List.find?_append,List.find?_eq_none.mpr]
    ·simp
    ·intro q hq e
     exact h (by rw [← of_decide_eq_true e]; exact List.mem_map_of_mem hq)
   rw [this]
   simp [List.getElem?_replicate]
   split <;> rfl
  ·rw [lit_none]
   rw [List.map_append]
   intro q
   rcases List.mem_append.mp q with q | q
   ·exact h q
   ·exact z (by simpa using q)
theorem zmR {kn:Kn} {q:List Int × Addr × List Bool} {v:Bool} {f n k:Nat} {r:List Int} (nd:(kn.map (·.1)).Nodup) (ad:(kn.map (·.2.1)).Nodup) (hq:q ∈ kn) (hk:k < q.2.2.length) :
  zaG (knR v kn q.2.1 f n) k r = if r = q.1 ∧ f ≤ k ∧ k < f + n then v else zaG kn k r:=by
 have nd':((knR v kn q.2.1 f n).map (·.1)).Nodup:=by rw [zhn]; exact nd
 by_cases h:r ∈ kn.map (·.1)
 ·obtain ⟨p,hp,rfl⟩:=List.mem_map.mp h
  by_cases z:p.2.1 = q.2.1
  ·have:p = q:=zeb ad hp hq z
   subst this
   have e:=zcl nd' (zl7 (v:=v) (f:=f) (i:=n) hp)
   rw [zba,show litOf (knR v kn p.2.1 f n) p.1 = setR v p.2.2 f n from e,zgT hk,zba,zcl nd hp]
   by_cases c:f ≤ k ∧ k < f + n
   ·rw [if_pos c,if_pos ⟨rfl,c⟩]
   ·rw [if_neg c,if_neg fun x=>c x.2]
  ·have hm:p ∈ knR v kn q.2.1 f n:=List.mem_map.mpr ⟨p,hp,if_neg z⟩
   rw [zba,zcl nd' hm,zba,zcl nd hp,if_neg]
   intro x
   exact z (by rw [zeb nd hp hq x.1])
 ·rw [zba,lit_none (by rw [zhn]; exact h),zba,lit_none h,if_neg]
  intro x
  exact h (by rw [x.1]; exact List.mem_map_of_mem hq)
def EntM (H H':Hp) (D:Addr) (n:Nat) (v:V) (e:List Int × List Stt) : Prop:=∃ t p q ys,v = .ref t ∧ H' t = some (.tup [.ref p,.ref q]) ∧ H' p = some (.tup (e.1.map V.int)) ∧ H' q = some (.lst ys) ∧ ys.length ≤ 100 + n ∧ H q = none ∧ q ≠ D
theorem EntM.grow {H H':Hp} {D q0:Addr} {ys0:List V} {n:Nat} {v:V} {e:List Int × List Stt} (h:EntM H H' D n v e) (h0:H' q0 = some (.lst ys0)) (l0:ys0.length ≤ 100 + n) : EntM H (upd H' q0 (.lst (ys0 ++ [.non]))) D (n + 1) v e:=by
 refine zaa ?_; intro G_; obtain ⟨t,p,q,ys,a1,a2,a3,a4,a5,a6,a7⟩:=h
 have nt:=za3 h0
 by_cases z:q = q0
 ·subst z
  exact ⟨t,p,q,_,a1,zbd nt _ _ a2,zbd nt _ _ a3,zab,by rw [List.length_append,List.length_singleton]; lia,a6,a7⟩
 ·exact ⟨t,p,q,ys,a1,zbd nt _ _ a2,zbd nt _ _ a3,by rw [zad z]; exact a4,by lia,a6,a7⟩
end Prf
namespace L2
open PySem PySem.Spec PyProof.Rows
def IsFn (f:Addr) (fd:FuncData) (h:Heap) : Prop:=h.get? f = some { cls:=.type "function", data:=.func fd }
def IsCd (c:Addr) (q:Str) (h:Heap) : Prop:=∃ o vs t,h.get? c = some o ∧ o.data = .fields vs ∧ vs[1]? = some (.str q t)
theorem IsFn.ok {P:Program} {w:World} {H:Hp} {h:Heap} {f:Addr} {fd:FuncData} (e:IsFn f fd h) : ObjOk P w H h f (.ext (IsFn f fd)):=⟨e,⟨_,e⟩,fun h1 h2 p k=>k _ p⟩
theorem IsCd.ok {P:Program} {w:World} {H:Hp} {h:Heap} {c:Addr} {q:Str} (e:IsCd c q h) : ObjOk P w H h c (.ext (IsCd c q)):=by
 refine zaa ?_; intro G_; obtain ⟨o,vs,t,e1,e2,e3⟩:=id e
 exact ⟨e,⟨o,e1⟩,(by rintro h1 h2 ⟨o,vs,t,e1,e2,e3⟩ k; exact ⟨o,vs,t,k _ e1,e2,e3⟩)⟩
theorem zlo {CX:CXT} {P:Program} {w:World} {K:PySem.W.Frag} {mg:Str → Option Value} {base:Heap} {k:Nat} {f c:Addr} {qual:Str} {params:Arguments} {body:Expr} {scope:Scope} {pm ctv:Value}
  {N ps:List Str} {sp:Sp} (S:FnScope N ps scope) (len:∀ vs H Q E,sp vs H Q E → vs.length = ps.length)
  (hat:∀ vs H Q E,sp vs H Q E → H f = some (.ext (IsFn f (PySem.W.kla_fn "<lambda>" qual params body scope [] pm (.ref c) ctv))) ∧ H c = some (.ext (IsCd c qual)))
  (hbody:∀ (A:Around) (outer:List Env) (s:Shared) (H:Hp) (vs:List V) (Q:VK) (E:XK),Room k (A.deeper (envOfC qual scope s.heap.objs.size f (.ref c))) → sp vs H Q E →
   ∃ t,PE (cxOf CX P w K mg base N qual scope f (.ref c) A outer s H E) body t ∧ t (start N vs) H Q) :
  FnOk P w K mg base CX (k + 1) f (PySem.W.kla_fn "<lambda>" qual params body scope [] pm (.ref c) ctv) ps sp:=by
 refine ⟨len,fun A outer s H args us vs Q E hr e0 hb r hsp=>?_⟩
 have hl:=len _ _ _ _ hsp
 obtain ⟨hf,hc⟩:=hat _ _ _ _ hsp
 have hof:IsFn f _ s.heap:=(e0.hok f _ hf).1
 have lim:s.heap.NoLimit:=e0.mod.nolimit.keeps fun b o e=>(e0.bs b o e).1
 obtain ⟨oc,vs',tq,c1,c2,c3⟩ : IsCd c qual s.heap:=(e0.hok c _ hc).1
 have hcd:s.heap.CodeRec (.ref c) qual:=⟨c,oc,vs',tq,rfl,c1,c2,c3⟩
 have hkind:∀ y ∈ ps.zip us,scope.names.lookup y.1 = some .local ∨ (scope.names.lookup y.1 = some .cell ∧ ((cellsFrom (s.heap.objs.size + 1) scope.names []).lookup y.1).isSome = true):=fun ⟨n,v⟩ hy=>by
  rcases S.par n (List.of_mem_zip hy).1 with q | q
  ·exact .inl q
  ·exact .inr ⟨q,PySem.W.cellsFrom_some _ _ _ (.inl q)⟩
 refine PySem.W.kla_callFunE hr.depth hof rfl S.co S.gen rfl hcd (hb _ _ _ _ ?_)
 refine wpAny_newFunctionEnv_cells S.kind hkind fun env he s1 x=>?_
 subst he
 refine ⟨lim.keeps x.toInCall.keep,PySem.W.kla_codeExpr ?_⟩
 refine zaa ?_; intro G_; obtain ⟨t,ht,hq⟩:=hbody A outer s H vs Q E (hr.deeper _) hsp
 have I:Inv (cxOf CX P w K mg base N qual scope f (.ref c) A outer s H E) [] (start N vs) H s1:=zfV S hr.hd e0 hl r x
 refine wpAny_mono (ht [] s1 (start N vs) H _ I hq) (fun u s' hs=>?_) fun e s' hs=>hs
 refine zaa ?_; intro G_; obtain ⟨v,H',J,rv,q⟩:=hs
 exact ⟨v,H',J.os,J.bare,J.base,J.hok,rv,q⟩
structure Site where
 c:Addr
 P:Addr
structure SiteOk (base:Heap) (mg:Str → Option Value) (S:Site) : Prop where
 hd:PySem.W.CodeHd base S.c S.P
 blt:∃ bm o,mg "__builtins__" = some (.ref bm) ∧ bm ≠ builtinsNs ∧ base.get? bm = some o ∧ o.cls = .type "module" ∧ o.dict = some builtinsNs ∧ o.data = .plain
def triple (pos:Pos) (c':Addr) : Array Value:=#[rawInt pos.line,rawInt pos.col,.ref c']
abbrev zbI (qual:Str) (params:Arguments) (body:Expr) (scope:Scope) (pm:Value) (c':Addr) (ctv:Value) : FuncData:=PySem.W.kla_fn "<lambda>" qual params body scope [] pm (.ref c') ctv
def tLam (S:Site) (qual:Str) (params:Arguments) (body:Expr) (scope:Scope) (pos:Pos) : TE:=fun _ H Q =>
 (H S.P = some (.tbl #[]) ∧ ∀ f c' pm ctv,H f = none → H c' = none → f ≠ c' →
  Q (.ref f) (upd (upd (upd H S.P (.tbl (triple pos c'))) c' (.ext (IsCd c' qual))) f (.ext (IsFn f (zbI qual params body scope pm c' ctv))))) ∨
 ∃ c',H S.P = some (.tbl (triple pos c')) ∧ H c' = some (.ext (IsCd c' qual)) ∧ ∀ f pm ctv,H f = none → Q (.ref f) (upd H f (.ext (IsFn f (zbI qual params body scope pm c' ctv))))
section
variable {X:Cx} {S:Site} {params:Arguments} {body:Expr} {scope:Scope} {pos:Pos}
theorem zng (hS:SiteOk X.base X.mg S) (hcode:X.env.code = .ref S.c) (hcl:closureFor scope X.env = pure []) (hdef:defaultsOf params X.env = ([],[])) :
  PE X (.Lambda params body scope pos) (tLam S (X.env.qual ++ "<lambda>") params body scope pos):=by
 intro pins s σ H Q I h
 refine PySem.W.kla_eval hdef ?_
 have hC:=hS.hd.keeps I.bk
 have hg:s.heap.Ns mainGlobals X.mg:=I.mod.glob.keeps I.bk
 have hge0:X.env.globals = mainGlobals:=I.ok.glob
 have bat:∀ ps,s.heap.get? S.P = some (PySem.W.tabObj ps) → mainGlobals ≠ S.P ∧ s.heap.BuiltinsAt X.mg S.P:=fun ps eP=>by
  have hgP:mainGlobals ≠ S.P:=fun e=>by
   refine zaa ?_; intro G_; obtain ⟨o,es,ep,e1,d,_⟩:=hg
   rw [e,eP] at e1; cases e1; cases d
  refine zaa ?_; intro G_; obtain ⟨bm,ob,b1,b2,b3,b4,b5,b6⟩:=hS.blt
  refine ⟨hgP,bm,ob,b1,b2,fun q=>?_,fun q=>?_,I.bk _ _ b3,b4,b5,b6⟩
  ·refine zaa ?_; intro G_; obtain ⟨o,es,ep,e1,d,_⟩:=hg
   rw [q,] at b3
   rw [I.bk _ _ b3] at e1; cases e1; rw [d] at b6; cases b6
  ·rw [q] at b3
   rw [I.bk _ _ b3] at eP; cases eP; cases b4
 rcases h with ⟨hP,k⟩ | ⟨c',hP,hc',k⟩
 ·have eP:s.heap.get? S.P = some (PySem.W.tabObj #[]):=I.hok _ _ hP
  obtain ⟨hgP,hb⟩:=bat _ eP
  refine PySem.W.kla_makeFunction (mg:=X.mg) hcl hge0 hg hcode hC eP True.intro rfl hgP hb fun c' ctv h' tk hx hge hlt hrec htb=>?_
  obtain ⟨c2,oc,vs,t,e2,hoc,hd,hv⟩:=hrec
  cases e2
  have fc:H c' = none:=I.hok.fresh hge
  have ff:H h'.objs.size = none:=I.hok.fresh (Nat.le_trans hge (Nat.le_of_lt hlt))
  have nPc:S.P ≠ c':=zaf hP fc
  have nPf:S.P ≠ h'.objs.size:=zaf hP ff
  have ncf:c' ≠ h'.objs.size:=Nat.ne_of_lt hlt
  have main:=k h'.objs.size c' ((X.mg "__name__").getD .none) ctv ff fc ncf.symm
  generalize hob:PySem.W.kla_obj "<lambda>" (X.env.qual ++ "<lambda>") params body scope [] ((X.mg "__name__").getD .none) c' ctv = ob
  have kp:∀ b o,b ≠ S.P → s.heap.get? b = some o → (h'.push ob).get? b = some o:=fun b o n e=>Heap.get?_push_of_some _ (hx b o n e)
  have aP:(h'.push ob).get? S.P = some (PySem.W.tabObj (triple pos c')):=by
   have:=Heap.get?_push_of_some ob htb
   rw [Array.empty_append] at this
   exact this
  have ac:IsCd c' (X.env.qual ++ "<lambda>") (h'.push ob):=⟨oc,vs,t,Heap.get?_push_of_some _ hoc,hd,hv⟩
  have af:IsFn h'.objs.size (zbI (X.env.qual ++ "<lambda>") params body scope ((X.mg "__name__").getD .none) c' ctv) (h'.push ob):=by
   subst hob
   exact Heap.get?_push_size _ rfl
  have old:∀ {b:Addr} {o:HO},H b = some o → b ≠ S.P → upd (upd (upd H S.P (.tbl (triple pos c'))) c' (.ext (IsCd c' (X.env.qual ++ "<lambda>")))) h'.objs.size (.ext (IsFn h'.objs.size (zbI (X.env.qual ++ "<lambda>") params body scope ((X.mg "__name__").getD .none) c' ctv))) b = some o:=fun {b o} e n=>by
   rw [zad (zaf e ff),zad (zaf e fc),zad n]; exact e
  have atP:upd (upd (upd H S.P (.tbl (triple pos c'))) c' (.ext (IsCd c' (X.env.qual ++ "<lambda>")))) h'.objs.size (.ext (IsFn h'.objs.size (zbI (X.env.qual ++ "<lambda>") params body scope ((X.mg "__name__").getD .none) c' ctv))) S.P = some (.tbl (triple pos c')):=by
   rw [zad nPf,zad nPc,zab]
  have atN:∀ {b:Addr},b < s.heap.objs.size → H b = none → upd (upd (upd H S.P (.tbl (triple pos c'))) c' (.ext (IsCd c' (X.env.qual ++ "<lambda>")))) h'.objs.size (.ext (IsFn h'.objs.size (zbI (X.env.qual ++ "<lambda>") params body scope ((X.mg "__name__").getD .none) c' ctv))) b = none:=fun {b} hl n=>by
   rw [zad (Nat.ne_of_lt (Nat.lt_of_lt_of_le hl (Nat.le_trans hge (Nat.le_of_lt hlt)))),zad (Nat.ne_of_lt (Nat.lt_of_lt_of_le hl hge)),zad (fun z=>by rw [z,hP] at n; cases n)]
   exact n
  have un:Un X.fs [] H (upd (upd (upd H S.P (.tbl (triple pos c'))) c' (.ext (IsCd c' (X.env.qual ++ "<lambda>")))) h'.objs.size (.ext (IsFn h'.objs.size (zbI (X.env.qual ++ "<lambda>") params body scope ((X.mg "__name__").getD .none) c' ctv)))) s.heap (h'.push ob):=by
   refine ⟨fun b o e n _ _=>kp b o (fun z=>by rw [z,hP] at n; cases n) e,fun b o e n _ _=>⟨o.slots,kp b o (fun z=>by rw [z,hP] at n; cases n) e⟩,fun b o e n _=>atN (Heap.lt_size e) n,fun b o e _=>?_,fun b xs e=>old e (fun z=>by rw [z,hP] at e; cases e),
    fun b o u e=>old e (fun z=>by rw [z,hP] at e; cases e),fun b ps e=>?_⟩
   ·by_cases hb:b = S.P
    ·rw [hb]; exact ⟨_,aP⟩
    ·exact ⟨o,kp b o hb e⟩
   ·by_cases hb:b = S.P
    ·rw [hb] at e ⊢
     rw [hP] at e
     cases e
     exact ⟨triple pos c',by rw [atP,Array.empty_append]⟩
    ·exact ⟨#[],by rw [old e hb,Array.append_empty]⟩
  have hok:HOk X.prog X.w (upd (upd (upd H S.P (.tbl (triple pos c'))) c' (.ext (IsCd c' (X.env.qual ++ "<lambda>")))) h'.objs.size (.ext (IsFn h'.objs.size (zbI (X.env.qual ++ "<lambda>") params body scope ((X.mg "__name__").getD .none) c' ctv)))) (h'.push ob):=fun b u e=>by
   by_cases h1:b = h'.objs.size
   ·rw [h1] at e ⊢
    rw [zab] at e
    cases e
    exact af.ok
   ·by_cases h2:b = c'
    ·rw [h2] at e ⊢
     rw [zad ncf,zab] at e
     cases e
     exact ac.ok
    ·by_cases h3:b = S.P
     ·rw [h3] at e ⊢
      rw [atP] at e
      cases e
      exact aP
     ·rw [zad h1,zad h2,zad h3] at e
      refine (I.hok b u e).stay (fun x v hx' q=>kp x v ?_ q) (fun x q=>old q (fun z=>by rw [z,hP] at q; cases q)) fun x xs q=>old q (fun z=>by rw [z,hP] at q; cases q)
      rcases hx' with z | z
      ·rw [z]; exact h3
      ·intro q; rw [q,hP] at z; cases z
  exact ⟨.ref h'.objs.size,_,I.un (h':=h'.push ob) (t':=tk) un hok,rfl,main⟩
 ·have eP:s.heap.get? S.P = some (PySem.W.tabObj (triple pos c')):=I.hok _ _ hP
  obtain ⟨hgP,hb⟩:=bat _ eP
  refine PySem.W.kla_makeFunctionHit (cv:=.ref c') (mg:=X.mg) hcl hge0 hg hcode hC eP True.intro ?_ hb fun ctv h' tk hx hsz=>?_
  ·show codeAmong pos [rawInt pos.line,rawInt pos.col,.ref c'] = some (.ref c')
   simp [codeAmong,rawInt]
  ·have kp:∀ b o,s.heap.get? b = some o → (h'.push (PySem.W.kla_obj "<lambda>" (X.env.qual ++ "<lambda>") params body scope [] ((X.mg "__name__").getD .none) c' ctv)).get? b = some o:=fun b o e=>Heap.get?_push_of_some _ (hx b o e)
   have ff:H h'.objs.size = none:=I.hok.fresh hsz
   have af:IsFn h'.objs.size (zbI (X.env.qual ++ "<lambda>") params body scope ((X.mg "__name__").getD .none) c' ctv) (h'.push (PySem.W.kla_obj "<lambda>" (X.env.qual ++ "<lambda>") params body scope [] ((X.mg "__name__").getD .none) c' ctv)):=Heap.get?_push_size _ rfl
   exact ⟨.ref h'.objs.size,_,I.laid (t':=tk) kp hsz af.ok,rfl,k _ _ _ ff⟩
end
def zlq (i:Nat) (f:Addr) (sp:Sp) (t:TA) : TE:=fun σ H Q=>σ[i]? = some (some (.ref f)) ∧ t σ H fun vs H1=>sp vs H1 Q E0
section
variable {X:Cx} {k j i:Nat} {x:Str} {ps:List Str} {sp:Sp} {p pos:Pos} {e:Expr} {es:List Expr} {t:TA} {f:Addr} {fd:FuncData}
theorem zkv (F:FnOk X.prog X.w X.K X.mg X.base CX0 k f fd ps sp) (hr:Room k X.A) (hb:Binds X.K fd ps []) (hN:X.N[i]? = some x) (hv:Vis X.env.scope x) (ha:PA X (e :: es) t) (Kp:Heap → Prop)
  (hk:∀ (M:Model) (h:Heap),Kp h → ∃ kk,(kk = Keeper.frame ∨ kk = Keeper.machine ∨ kk = Keeper.boundFrame) ∧ PySem.W.Looks M h (keeperOf (.ref f)) kk)
  (hp:∀ (pins:List (Addr × Obj)) (σ:St) (H:Hp) (s:Shared) (vs:List V) (Q:VK),Inv X pins σ H s → sp vs H Q E0 → Kp s.heap)
  (hd:(x == ("__debug__" : Str)) = false) (hcd:(x == ("__classdict__" : Str)) = false) (he:starEach (e :: es) X.env = (false,eval e X.env) :: starEach es X.env) (hpl:(backTo pos (starEach es X.env)).any (·.1) = false) :
  PE X (.Call (.Name x p) (e :: es) [] pos) (zlq i f sp t):=by
 rintro pins s σ H Q I ⟨ei,h⟩
 refine wpAny_Call_Name_kw (thn (zjw hN hv hd hcd pins s σ H (fun v H'=>v = .ref f ∧ t σ H' fun vs H1=>sp vs H1 Q E0) I ⟨_,ei,rfl,h⟩) fun fv s0 ⟨v,H0,I0,rv,e0,h0⟩=>?_)
 subst e0
 obtain rfl:fv = .ref f:=rv
 have main:wpAny (model X.prog X.w) X.A (spliced (backTo pos (starEach (e :: es) X.env))) (fun us s1=>Kp s1.heap ∧ wpAny (model X.prog X.w) X.A (call (.ref f) ([] ++ us)) (EP X pins σ Q) X.xe s1) X.xe s0 :=
  thn (ha pos pins s0 σ H0 _ I0 h0) fun us s1 ⟨vs,H1,I1,r,q⟩=>⟨hp pins σ H1 s1 vs Q I1 q,ziy F hr hb .nil zmg I1 r (by rw [List.append_nil]; exact q)⟩
 rw [he] at main ⊢
 exact PySem.W.callWith_of (by show ((false || (backTo pos (starEach es X.env)).any (·.1)) || false) = false; rw [hpl]; rfl) (fun h hh=>hk _ h hh) (PySem.Calls.evalArgs_plain main)
theorem zmb {M:Model} {h:Heap} (hh:IsFn f fd h) : ∃ kk,(kk = Keeper.frame ∨ kk = Keeper.machine ∨ kk = Keeper.boundFrame) ∧ PySem.W.Looks M h (keeperOf (.ref f)) kk :=
 ⟨.frame,.inl rfl,(PySem.W.Looks.ld (part:=none) hh).andThen .now⟩
theorem zle (i:Nat) (F:FnOk X.prog X.w X.K X.mg X.base CX0 k f fd ps sp) (hr:Room j X.A) (hb:Binds X.K fd ps []) (ha:JA X (e :: es) t) (hp:∀ vs H Q,sp vs H Q E0 → H f = some (.ext (IsFn f fd))) (hj:k ≤ j:=by decide) (hN:X.N[i]? = some x:=by rfl)
  (hv:Vis X.env.scope x:=by first | exact Or.inl rfl | exact Or.inr (Or.inl rfl) | exact Or.inr (Or.inr rfl)) (hd:(x == ("__debug__" : Str)) = false:=by decide +kernel) (hcd:(x == ("__classdict__" : Str)) = false:=by decide +kernel) :
  JE X (.Call (.Name x p) (e :: es) [] pos) (zlq i f sp t) :=
 ⟨zkv F (hr.mono hj) hb hN hv ha.h (IsFn f fd) (fun M h hh=>zmb hh) (fun pins σ H s vs Q I q=>(I.hok f _ (hp vs H Q q)).1) hd hcd (ha.hd.star _ _) (ha.rs.no _ _)⟩
theorem a1l {a:Arguments} {b:Expr} {sc:Scope} {te:TE} (ha:JE X (.Lambda a b sc p) te) : JA X [.Lambda a b sc p] (zax te tNil):=⟨zea ha.h zgV (Nst.star (.lam ..) _ _),.cons (.lam ..) .nil⟩
end
def LamOk (S:Site) (qual:Str) (pos:Pos) (H:Hp) : Prop:=H S.P = some (.tbl #[]) ∨ ∃ c',H S.P = some (.tbl (triple pos c')) ∧ H c' = some (.ext (IsCd c' qual))
def zjn:HO → Bool
 | .tbl _=>false
 | _=>true
structure LSite where
 S:Site
 q:Str
 pos:Pos
abbrev LSite.Ok (t:LSite) (H:Hp) : Prop:=LamOk t.S t.q t.pos H
structure Stay (Ls:List LSite) (H H':Hp) : Prop where
 g0:∀ b o,H b = some o → zjn o = true → H' b = some o
 tb:∀ b ps,H b = some (.tbl ps) → ∃ ps',H' b = some (.tbl ps')
 lam:∀ t ∈ Ls,t.Ok H → t.Ok H'
section
variable {Ls:List LSite} {H H1 H2:Hp} {a:Addr} {o:HO}
theorem Stay.g (s:Stay Ls H H1) (h:H a = some o) (ht:zjn o = true:=by rfl) : H1 a = some o:=s.g0 a o h ht
theorem Stay.trans (s:Stay Ls H H1) (t:Stay Ls H1 H2) : Stay Ls H H2 :=
 ⟨fun b o h n=>t.g0 b o (s.g0 b o h n) n,fun b ps h=>let ⟨ps',h'⟩:=s.tb b ps h; t.tb b ps' h',fun u hu h=>t.lam u hu (s.lam u hu h)⟩
theorem LamOk.same {S:Site} {q:Str} {p:Pos} (h:LamOk S q p H) (s:Same H H1) : LamOk S q p H1:=h.elim (fun z=>.inl (s _ _ z)) (by rintro ⟨c,h1,h2⟩; exact .inr ⟨c,s _ _ h1,s _ _ h2⟩)
theorem Same.stay (s:Same H H1) : Stay Ls H H1:=⟨fun b o h _=>s b o h,fun b ps h=>⟨ps,s b _ h⟩,fun u _ h=>LamOk.same h s⟩
theorem Stay.refl (H:Hp) : Stay Ls H H:=(Same.refl H).stay
theorem Stay.free (s:Stay Ls H H1) (h:H1 a = none) : H a = none:=by
 cases e:H a with
 | none=>rfl
 | some o =>
  cases q:zjn o with
  | true=>rw [s.g0 a o e q] at h; cases h
  | false =>
   cases o <;> simp [zjn] at q
   obtain ⟨ps',h'⟩:=s.tb a _ e
   rw [h'] at h; cases h
theorem Stay.upd (s:Stay Ls H H1) (n:H1 a = none) : Stay Ls H (upd H1 a o):=s.trans ((Same.refl H1).upd n).stay
theorem Stay.wr {u:HO} (s:Stay Ls H H1) (n:H a = none) (h:H1 a = some u) (h1:zjn u = true) (h2:∀ φ,u ≠ .ext φ) : Stay Ls H (L2.upd H1 a o):=by
 refine ⟨fun b o' e k=>?_,fun b ps e=>?_,fun t ht z=>?_⟩
 ·rw [zad (zaf e n)]; exact s.g0 b o' e k
 ·rw [zad (zaf e n)]; exact s.tb b ps e
 ·have hP:∀ ps,H1 t.S.P = some (.tbl ps) → t.S.P ≠ a:=fun ps e z=>by
   rw [z,h] at e
   cases e
   cases h1
  rcases s.lam t ht z with z | ⟨c,z1,z2⟩
  ·exact .inl (by rw [zad (hP _ z)]; exact z)
  ·refine .inr ⟨c,by rw [zad (hP _ z1)]; exact z1,?_⟩
   rw [zad (fun e=>by rw [e,h] at z2; exact h2 _ (Option.some.inj z2))]
   exact z2
theorem Stay.made {t:LSite} {f c':Addr} (one:∀ u ∈ Ls,u.S.P = t.S.P → u = t) (hP:H t.S.P = some (.tbl #[])) (hf:H f = none) (hc:H c' = none) (ne:f ≠ c') :
  Stay Ls H (L2.upd (L2.upd (L2.upd H t.S.P (.tbl (triple t.pos c'))) c' (.ext (IsCd c' t.q))) f o):=by
 have go:∀ b u,H b = some u → b ≠ t.S.P → L2.upd (L2.upd (L2.upd H t.S.P (.tbl (triple t.pos c'))) c' (.ext (IsCd c' t.q))) f o b = some u:=fun b u e n=>by
  rw [zad (zaf e hf),zad (zaf e hc),zad n]; exact e
 have at1:L2.upd (L2.upd (L2.upd H t.S.P (.tbl (triple t.pos c'))) c' (.ext (IsCd c' t.q))) f o t.S.P = some (.tbl (triple t.pos c')):=by
  rw [zad (zaf hP hf),zad (zaf hP hc),zab]
 have at2:L2.upd (L2.upd (L2.upd H t.S.P (.tbl (triple t.pos c'))) c' (.ext (IsCd c' t.q))) f o c' = some (.ext (IsCd c' t.q)):=by rw [zad ne.symm,zab]
 refine ⟨fun b u e k=>go b u e fun z=>?_,fun b ps e=>?_,fun u hu z=>?_⟩
 ·rw [z,hP] at e; cases e; cases k
 ·by_cases z:b = t.S.P
  ·exact ⟨_,by rw [z]; exact at1⟩
  ·exact ⟨ps,go b _ e z⟩
 ·by_cases eq:u.S.P = t.S.P
  ·rw [one u hu eq]
   exact .inr ⟨c',at1,at2⟩
  ·rcases z with z | ⟨c,z1,z2⟩
   ·exact .inl (go _ _ z eq)
   ·exact .inr ⟨c,go _ _ z1 eq,go _ _ z2 fun e=>by rw [e,hP] at z2; cases z2⟩
end
end L2
namespace L2
open PySem PySem.Spec PyProof.Rows
theorem zjH {P:Program} {w:World} {K:PySem.W.Frag} {mg mb:Str → Option Value} {CX:CXT} {k:Nat} {fa a:Addr} {fd:FuncData} {x:Str} {sp:Sp} {s₁:Shared} {vs:List Value} {ns:List Int} {tabs:List (Addr × Addr)}
  (KX:K.In s₁.heap) (hns:s₁.heap.Ns mainGlobals mg) (hb:s₁.heap.Ns builtinsNs mb) (hbb:∀ x:Str,x ≠ "__name__" → mb x = bootBuiltins x) (hlim:s₁.heap.NoLimit) (hg:s₁.gens = #[])
  (ha:s₁.heap.get? a = some { cls:=.type "list", data:=.seq vs.toArray }) (hi:IntsAre vs ns) (hl:ns.length ≤ sizeLine) (hr:Room k callerA)
  (hT:PySem.W.TabsAt tabs s₁.heap) (hK:PySem.W.noTabs K = true)
  (hbm:∃ bm o,mg "__builtins__" = some (.ref bm) ∧ bm ≠ builtinsNs ∧ s₁.heap.get? bm = some o ∧ o.cls = .type "module" ∧ o.dict = some builtinsNs ∧ o.data = .plain)
  (F:∀ base:Heap,K.In base → base.Ns mainGlobals mg → (∀ q ∈ tabs,SiteOk base mg ⟨q.1,q.2⟩) → FnOk P w K mg base CX k fa fd [x] sp) (hbind:∀ (s:Shared) (u:Value),BindsTo s fd ⟨[u],[]⟩ [(x,u)])
  (hsp:∀ H:Hp,(∀ q ∈ tabs,H q.2 = some (.tbl #[])) → SqL K H a (ns.map V.int) → sp [.ref a] H (fun v _=>v = .bl true) fun _ _ _=>False)
  (hCX:∀ H e s',CX [] H s₁ (fun _ _ _=>False) e s' → False) :
  codeAny (model P w) callerA (.call (.ref fa) ⟨[.ref a],[]⟩) (fun r s'=>r = .ok (.ret (.bool true)) ∧ OldK s₁.heap s'.heap ∧ s'.os = s₁.os ∧ AllBare s'.gens) s₁:=by
 have rv:=zdR hi
 have lenV:=hi.length
 have tabO:∀ b,b ∈ tabs.map (·.2) → s₁.heap.get? b = some (PySem.W.tabObj #[]):=fun b hb=>by
  refine zaa ?_; intro G_; obtain ⟨q,hq,rfl⟩:=List.mem_map.mp hb
  exact (hT q hq).2
 have naT:a ∉ tabs.map (·.2):=fun z=>by
  have:=tabO a z
  rw [ha] at this
  cases this
 have core : ∀ H : Hp, (∀ b, H b = none ∨ (∃ o xs, H b = some (.frz o (.lst xs)) ∧ b = a) ∨ (b ∈ tabs.map (·.2) ∧ H b = some (.tbl #[]))) → (∀ q ∈ tabs, H q.2 = some (.tbl #[])) → SqL K H a (ns.map V.int) → HOk P w H s₁.heap → (H a ≠ none → K.lookup a = none) →
   codeAny (model P w) callerA (.call (.ref fa) ⟨[.ref a],[]⟩) (fun r s'=>r = .ok (.ret (.bool true)) ∧ OldK s₁.heap s'.heap ∧ s'.os = s₁.os ∧ AllBare s'.gens) s₁:=by
  intro H hO hH hS hok hKa
  have base_of:∀ {b:Addr} {o:Obj},s₁.heap.get? b = some o → H b = none → (hidT s₁.heap H).get? b = some o:=fun e n=>zj3 e n
  have noA:∀ {b:Addr} {o:Obj},s₁.heap.get? b = some o → o.cls ≠ .type "list" → o.cls ≠ .none → H b = none:=fun {b o} e n1 n2=>by
   rcases hO b with z | ⟨_,_,_,z⟩ | ⟨z,_⟩
   ·exact z
   ·rw [z,ha] at e; cases e; exact absurd rfl n1
   ·rw [tabO b z] at e; cases e; exact absurd rfl n2
  have noD:∀ {b:Addr} {o:Obj} {es:Array DictEntry} {ep:Nat},s₁.heap.get? b = some o → o.data = .dict es ep → H b = none:=fun {b o es ep} e d=>by
   rcases hO b with z | ⟨_,_,_,z⟩ | ⟨z,_⟩
   ·exact z
   ·rw [z,ha] at e; cases e; cases d
   ·rw [tabO b z] at e; cases e; cases d
  have nsK:∀ {b:Addr} {m:Str → Option Value},s₁.heap.Ns b m → (hidT s₁.heap H).Ns b m:=fun {b m} ⟨o,es,ep,e,d,r⟩=>⟨o,es,ep,base_of e (noD e d),d,r⟩
  have hKb:K.In (hidT s₁.heap H):=fun b o e=>base_of (KX b o e) (by
   rcases hO b with z | ⟨o',xs,z,rfl⟩ | ⟨z,_⟩
   ·exact z
   ·rw [hKa (by rw [z]; simp)] at e; cases e
   ·have e2:=KX b o e
    rw [tabO b z] at e2
    cases e2
    have h2:=List.all_eq_true.mp hK (b,PySem.W.tabObj #[]) (PySem.W.mem_of_lookupK e)
    exact absurd (show false = true from h2) Bool.false_ne_true)
  have hM:Mod K mg (hidT s₁.heap H):=⟨hKb,nsK hns,⟨mb,nsK hb,hbb⟩,let ⟨mc,h1,h2⟩:=hlim; ⟨mc,nsK h1,h2⟩⟩
  have sites:∀ q ∈ tabs,SiteOk (hidT s₁.heap H) mg ⟨q.1,q.2⟩:=fun q hq=>by
   refine zaa ?_; intro G_; obtain ⟨o,vs',file,tf,flags,tg,inF,text,tt,e1,r1,r2⟩:=(hT q hq).1
   refine zaa ?_; intro G_; obtain ⟨bm,ob,b1,b2,b3,b4,b5⟩:=hbm
   exact ⟨⟨o,vs',file,tf,flags,tg,inF,text,tt,base_of e1 (noA e1 (by rw [r1]; decide) (by rw [r1]; decide)),r1,r2⟩,bm,ob,b1,b2,base_of b3 (noA b3 (by rw [b4]; decide) (by rw [b4]; decide)),b4,b5⟩
  have e0:Env0 P w K mg (hidT s₁.heap H) callerA [] s₁ H:=⟨rfl,hM,fun b o e=>zmE e,Nat.le_of_eq (zjs _ _),trivial,fun b hb=>absurd (show b ∈ ([] : List Addr) from hb) (by simp),hok,.of_eq hg⟩
  refine codeAny_mono ((F _ hKb (nsK hns) sites).run callerA [] s₁ H ⟨[.ref a],[]⟩ [.ref a] [.ref a] _ _ hr e0 (hbind s₁ (.ref a)) (.cons rfl .nil) (hsp H hH hS)) fun r s' h=>?_
  cases r with
  | error e=>exact (hCX H e s' h).elim
  | ok fl =>
   cases fl with
   | next=>exact False.elim h
   | brk=>exact False.elim h
   | cont=>exact False.elim h
   | ret u =>
    refine zaa ?_; intro G_; obtain ⟨v,H',os,bare,un,hok',r',q⟩:=h
    have q':v = .bl true:=q
    subst q'
    obtain rfl:u = Value.bool true:=r'
    have keep:∀ b o,s₁.heap.get? b = some o → b ∉ tabs.map (·.2) → s'.heap.get? b = some o:=fun b o e hn=>by
     rcases hO b with z | ⟨ob,xs,z,_⟩ | ⟨z,_⟩
     ·exact un.keep b o e z (by intro z; exact absurd (show b ∈ ([] : List Addr) from z) (by simp)) (by simp)
     ·have z2:=un.frzs b ob _ z
      obtain ⟨e1,_⟩:=hok b _ z
      obtain ⟨e2,_⟩:=hok' b _ z2
      rw [e] at e1; cases e1
      exact e2
     ·exact absurd z hn
    have grown:∀ b o,s₁.heap.get? b = some o → b ∈ tabs.map (·.2) → isCodeTable s₁.heap b ∧ o = PySem.W.tabObj #[] ∧ ∃ ps,s'.heap.get? b = some (PySem.W.tabObj ps):=fun b o e hm=>by
     refine zaa ?_; intro G_; obtain ⟨q,hq,rfl⟩:=List.mem_map.mp hm
     have e2:=(hT q hq).2
     rw [e] at e2
     obtain ⟨more,hm'⟩:=un.tbls _ _ (hH q hq)
     have e3:s'.heap.get? q.2 = some { cls:=.none,data:=.fields (#[] ++ more) }:=hok' _ _ hm'
     exact ⟨((hT q hq).1.tab (hT q hq).2).isCodeTable,Option.some.inj e2,_,e3⟩
    refine ⟨rfl,⟨fun b o e=>?_,fun b o e=>?_⟩,os,bare⟩
    ·by_cases hb:b ∈ tabs.map (·.2)
     ·refine zaa ?_; intro G_; obtain ⟨ht,rfl,ps,hP⟩:=grown b o e hb
      exact .inr (.inl ⟨ht,rfl,#[],ps,rfl,by rw [Array.empty_append]; exact hP⟩)
     ·exact .inl (keep b o e hb)
    ·by_cases hb:b ∈ tabs.map (·.2)
     ·refine zaa ?_; intro G_; obtain ⟨_,_,ps,hP⟩:=grown b o e hb
      exact ⟨_,hP⟩
     ·exact ⟨o,keep b o e hb⟩
 have memT:∀ q ∈ tabs,q.2 ∈ tabs.map (·.2):=fun q hq=>List.mem_map_of_mem hq
 have neT:∀ b,b ∈ tabs.map (·.2) → b ≠ a:=fun b hb e=>naT (e ▸ hb)
 cases hk:K.lookup a with
 | some o =>
  have e:=KX a o hk
  rw [ha] at e
  cases e
  refine core (fun b=>if b ∈ tabs.map (·.2) then some (.tbl #[]) else none) (fun b=>?_) (fun q hq=>if_pos (memT q hq)) (.inr ⟨_,vs.toArray,_,hk,rfl,rfl,rfl,by rw [List.size_toArray,lenV]; exact hl,by simpa using rv⟩) (fun b u z=>?_) fun z=>absurd (if_neg naT) z
  ·by_cases hb:b ∈ tabs.map (·.2)
   ·exact .inr (.inr ⟨hb,if_pos hb⟩)
   ·exact .inl (if_neg hb)
  ·by_cases hb:b ∈ tabs.map (·.2)
   ·have z':=(if_pos hb).symm.trans z
    cases z'
    exact tabO b hb
   ·have z':=(if_neg hb).symm.trans z
    cases z'
 | none =>
  refine core (fun b=>if b = a then some (.frz { cls:=.type "list", data:=.seq vs.toArray } (.lst (ns.map V.int))) else if b ∈ tabs.map (·.2) then some (.tbl #[]) else none) (fun b=>?_) (fun q hq=>by rw [if_neg (neT _ (memT q hq)),if_pos (memT q hq)])
   (.inl (.inr ⟨{ cls:=.type "list", data:=.seq vs.toArray },if_pos rfl⟩)) (fun b u z=>?_) fun _=>hk
  ·by_cases hb:b = a
   ·exact .inr (.inl ⟨_,_,if_pos hb,hb⟩)
   ·by_cases hb2:b ∈ tabs.map (·.2)
    ·exact .inr (.inr ⟨hb2,by rw [if_neg hb,if_pos hb2]⟩)
    ·exact .inl (by rw [if_neg hb,if_neg hb2])
  ·by_cases hb:b = a
   ·have z':=(if_pos hb).symm.trans z
    cases z'
    subst hb
    exact ⟨ha,by rw [List.length_map]; exact hl,vs,_,rv,ha⟩
   ·have z1:=(if_neg hb).symm.trans z
    by_cases hb2:b ∈ tabs.map (·.2)
    ·have z':=(if_pos hb2).symm.trans z1
     cases z'
     exact tabO b hb2
    ·have z':=(if_neg hb2).symm.trans z1
     cases z'
theorem walk_ofT {l:PySem.W.OpenLaw} {n k:Nat} {q:Program} {loose:List Str} {XP:(Str → Option Value) → Heap → Prop} {YP:World → Heap → Prop} {d:DefRec} {K:Params → PySem.W.Frag} {sp:World → Sp} {x:Str} {tabs:List (Addr × Addr)}
  (hn:l.most = some n) (hn2:n ≤ sizeLine) (hdf:d.params.defaults = []) (hr:Room k callerA)
  (hY:∀ (w:World) (h:Heap),YP w h → (K w.params).In h) (hK:∀ w:World,PySem.W.noTabs (K w.params) = true)
  (hT:∀ (w:World) (mean:ExcName → Option Value) (mg mb:Str → Option Value) (h:Heap),(K w.params).In h → Top q (PySem.W.looseW q loose) mean mg mb h → PySem.W.TabsAt tabs h)
  (F:∀ (w:World) (mg:Str → Option Value) (fa:Addr) (h:Heap),(K w.params).In h → h.Ns mainGlobals mg → mg d.name = some (.ref fa) →
   ∃ fd:FuncData,(∀ (s:Shared) (u:Value),BindsTo s fd ⟨[u],[]⟩ [(x,u)]) ∧
    ∀ base:Heap,(K w.params).In base → base.Ns mainGlobals mg → (∀ q ∈ tabs,SiteOk base mg ⟨q.1,q.2⟩) → FnOk l.prog w (K w.params) mg base CX0 k fa fd [x] (sp w))
  (hsp:∀ (w:World) (H:Hp) (a:Addr) (ns:List Int),ns.length ≤ n → (∀ q ∈ tabs,H q.2 = some (.tbl #[])) → SqL (K w.params) H a (ns.map V.int) → sp w [.ref a] H (fun v _=>v = .bl true) fun _ _ _=>False) :
  PySem.W.WalkO q loose XP YP l.row.toRowW d [] (fun f vs=>PySem.call f vs):=by
 refine Att.attach_call hn hdf fun w s₀ s₁ mg mb fa o pm cd doc a vs ns G Y ho hd hcd hmg hobj hints hlen hg=>?_
 have KX:=hY w _ Y
 refine zaa ?_; intro G_; obtain ⟨fd,hb,hF⟩:=F w mg fa _ KX G.T.g hmg
 exact zjH KX G.T.g G.T.b G.T.builtins G.T.nolimit hg hobj hints (Nat.le_trans hlen hn2) hr (hT w _ mg mb _ KX G.T) (hK w) G.T.bmain hF hb (fun H hO hS=>hsp w H a ns hlen hO hS) fun H e s' z=>z
end L2
namespace L2
open PySem PySem.Spec PyProof.Rows
section
variable {P:Program} {w:World} {K:PySem.W.Frag} {mg:Str → Option Value} {base:Heap}
theorem Fun.okC {x qual:Str} {st:Stmt} {f c:Addr} {fd:FuncData} {N ps:List Str} {k:Nat} {sp:Sp} (F:Fun K x qual st f fd) (hcode:fd.code = .ref c) (S:FnScope N ps (zae st)) (len:∀ vs H Q E,sp vs H Q E → vs.length = ps.length)
  (hbody:∀ (A:Around) (outer:List Env) (s:Shared) (H:Hp) (vs:List V) (Q:VK) (E:XK),Room k (A.deeper (envOfC qual (zae st) s.heap.objs.size f (.ref c))) → sp vs H Q E →
   ∃ t,JB (cxOf CX0 P w K mg base N qual (zae st) f (.ref c) A outer s H E).nox (za8 st) t ∧ t { nx:=fun _ H'=>Q .non H',rt:=Q } (start N vs) H) : FnOk P w K mg base CX0 (k + 1) f fd ps sp:=by
 obtain ⟨oc,od,kV,doc,pm,an,cdv,ct,osl,rfl,lk,hcd⟩:=F.ex
 obtain rfl:cdv = .ref c:=hcode
 refine zmv lk hcd S len fun A outer s H vs Q E hr hsp=>?_
 obtain ⟨t,h,q⟩:=hbody A outer s H vs Q E hr hsp
 exact ⟨t,h.h.nox,q⟩
end
section
variable {X:Cx} {S:Site} {params:Arguments} {body:Expr} {scope:Scope} {pos:Pos}
theorem znq (hS:SiteOk X.base X.mg S) (hcode:X.env.code = .ref S.c:=by rfl) (hcl:closureFor scope X.env = pure []:=by rfl) (hdef:defaultsOf params X.env = ([],[]):=by rfl) :
  JE X (.Lambda params body scope pos) (tLam S (X.env.qual ++ "<lambda>") params body scope pos):=⟨zng hS hcode hcl hdef⟩
end
end L2
namespace L2
open PySem Wr
variable {Ls:List LSite} {H H':Hp}
theorem StsAt.stay {xs:List V} {ss:List Stt} (h:StsAt H xs ss) (s:Stay Ls H H') : StsAt H' xs ss:=Paired.mapP h (by rintro _ _ ⟨t,h1,h2⟩; exact ⟨t,h1,s.g h2⟩)
theorem SpanAt.stay {a:Addr} {ss:List Stt} (h:SpanAt H a ss) (s:Stay Ls H H') : SpanAt H' a ss:=by obtain ⟨xs,h1,h2⟩:=h; exact ⟨xs,s.g h1,h2.stay s⟩
theorem RowAt.stay {v:V} {ns:List Int} (h:RowAt H v ns) (s:Stay Ls H H') : RowAt H' v ns:=by obtain ⟨t,h1,h2⟩:=h; exact ⟨t,h1,s.g h2⟩
theorem CondAt.stay (e:Stay Ls H H') : ∀ {c:Cond} {v:V},CondAt H v c → CondAt H' v c
 | .same i j,_,⟨t,h1,h2⟩=>⟨t,h1,e.g h2⟩
 | .isv i n,_,⟨t,h1,h2⟩=>⟨t,h1,e.g h2⟩
 | .less i j,_,⟨t,h1,h2⟩=>⟨t,h1,e.g h2⟩
 | .undr i n,_,⟨t,h1,h2⟩=>⟨t,h1,e.g h2⟩
 | .both a b,_,⟨t,va,vb,h1,h2,h3,h4⟩=>⟨t,va,vb,h1,e.g h2,CondAt.stay e h3,CondAt.stay e h4⟩
 | .either a b,_,⟨t,va,vb,h1,h2,h3,h4⟩=>⟨t,va,vb,h1,e.g h2,CondAt.stay e h3,CondAt.stay e h4⟩
 | .neg a,_,⟨t,va,h1,h2,h3⟩=>⟨t,va,h1,e.g h2,CondAt.stay e h3⟩
theorem CondAt.off (e:∀ b xs,H b = some (.tup xs) → H' b = some (.tup xs)) : ∀ {c:Cond} {v:V},CondAt H v c → CondAt H' v c
 | .same i j,_,⟨t,h1,h2⟩=>⟨t,h1,e _ _ h2⟩
 | .isv i n,_,⟨t,h1,h2⟩=>⟨t,h1,e _ _ h2⟩
 | .less i j,_,⟨t,h1,h2⟩=>⟨t,h1,e _ _ h2⟩
 | .undr i n,_,⟨t,h1,h2⟩=>⟨t,h1,e _ _ h2⟩
 | .both a b,_,⟨t,va,vb,h1,h2,h3,h4⟩=>⟨t,va,vb,h1,e _ _ h2,CondAt.off e h3,CondAt.off e h4⟩
 | .either a b,_,⟨t,va,vb,h1,h2,h3,h4⟩=>⟨t,va,vb,h1,e _ _ h2,CondAt.off e h3,CondAt.off e h4⟩
 | .neg a,_,⟨t,va,h1,h2,h3⟩=>⟨t,va,h1,e _ _ h2,CondAt.off e h3⟩
end L2
namespace Prf
open PySem L2 Wr
variable {Ls:List LSite} {H H':Hp}
theorem EntAt.stay {v:V} {e:List Int × List Stt} (h:EntAt H v e) (s:Stay Ls H H') : EntAt H' v e:=let ⟨t,p,q,a,b,c,d⟩:=h; ⟨t,p,q,a,s.g b,s.g c,d.stay s⟩
theorem SheetAt.stay {a:Addr} {es:List (List Int × List Stt)} (h:SheetAt H a es) (s:Stay Ls H H') : SheetAt H' a es:=let ⟨xs,h1,h2⟩:=h; ⟨xs,s.g h1,Paired.mapP h2 fun _ _ z=>EntAt.stay z s⟩
theorem EntX.stay {l:Addr} {v:V} {e:List Int × List Stt} (h:EntX H l v e) (s:Stay Ls H H') : EntX H' l v e:=let ⟨t,p,q,a,b,c,d,f⟩:=h; ⟨t,p,q,a,s.g b,s.g c,d.stay s,f⟩
theorem EntN.stay {H0:Hp} {D:Addr} {v:V} {e:List Int × List Stt} (h:EntN H0 H D v e) (s:Stay Ls H H') : EntN H0 H' D v e:=let ⟨t,p,q,a,b,c,d,f⟩:=h; ⟨t,p,q,a,s.g b,s.g c,d.stay s,f⟩
theorem SheetN.weakS {H0:Hp} {D:Addr} {es:List Ent} (h:SheetN H H' D es) (s:Stay Ls H0 H) : SheetN H0 H' D es :=
 let ⟨xs,a,b⟩:=h; ⟨xs,a,Paired.mapP b (by rintro _ _ ⟨t,p,q,x1,x2,x3,x4,x5,x6⟩; exact ⟨t,p,q,x1,x2,x3,x4,s.free x5,x6⟩)⟩
theorem zjm:∀ {l:List Stt},Can l → l.length ≤ (bnds l).length + 1
 | [],_=>Nat.zero_le _
 | [_],_=>by simp
 | (a, b) :: q :: r, h => by
  have ih:=zjm h.tail
  cases b with
  | none=>have:=tail_nil h rfl; cases this
  | some e =>
   rw [zcO]
   simp only [Option.toList_some,List.length_append,List.length_cons,List.length_nil] at *
   lia
theorem zkP {l:List Stt} {g:List Int} (hl:Can l) (h:∀ x ∈ bnds l,x ∈ g) : l.length ≤ g.length + 1:=by
 have h1:=zjm hl
 have h2:=len_sub ((zbw hl).imp fun h=>by lia) h
 lia
theorem zjb {st:Stt} (h:okS st) : Can [st]:=⟨fun s hs=>by rw [List.mem_singleton.mp hs]; exact h,List.pairwise_singleton ..⟩
theorem zbi {m:Int} {st:Stt} : zag m [st] = inS m st:=by simp [zag]
end Prf
namespace L2
open PySem PySem.Spec PyProof.Rows
section
variable {X:Cx}
def zon (K:PySem.W.Frag) : List V → Hp → VK → Prop:=fun xs H Q=>∃ (a C tp:Addr) (cs:List Addr) (b:Bool),xs = [.ref a,.ref tp] ∧ H a = some (excO a (.ref C)) ∧ ErrK K C ∧ SqT K H tp (cs.map V.ref) ∧ PySem.W.kitAny K (.ref C) (cs.map Value.ref) = some b ∧ Q (.bl b) H
theorem zfU:∀ {cs:List Addr} {us:List Value},Vals (cs.map V.ref) us → us = cs.map Value.ref
 | [],_,.nil=>rfl
 | _ :: _,_,.cons r t=>by cases (show _ = Value.ref _ from r); rw [zfU t]; rfl
theorem zm9:JC X (.builtin "isinstance") (zon X.K):=by
 refine ⟨fun pins s σ H xs us Q I r ⟨a,C,tp,cs,b,e,ha,ek,ht,kt,q⟩=>?_⟩
 subst e
 refine zaa ?_; intro G_; obtain ⟨u,w',rfl,r1,r2⟩:=vals2 r
 cases (show u = Value.ref a from r1)
 cases (show w' = Value.ref tp from r2)
 refine zaa ?_; intro G_; obtain ⟨its,rv,⟨⟨cl,dd,da,sl⟩,ho,hc,n,hda⟩,_⟩:=I.tuple ht
 cases zfU rv
 cases (show cl = _ from hc)
 cases (show da = _ from hda)
 exact PySem.W.kia_tup (PySem.W.KitX.mk (zbx (a:=a) ek).ty (zbx ek).it (zbx (a:=a) ek).ne (zbx ek).ca) I.kIn (ziQ (I.hok a _ ha)) ho kt (fun z=>nomatch z) fun tk=>⟨.bl b,H,I.tok tk,rfl,q⟩
end
theorem zjV {ob:Obj} {d:Addr} {kvs:List (List Key × V)} {ks:List (List Int)} {g:TG} {tb:TS} {D:Ends} {σ:St} {H:Hp} (hk:kvs.map (·.1) = ks.map (·.map Sum.inl)) (Pv:Nat → St → Hp → Prop) (h0:Pv 0 σ H) (hl:∀ i σ H,i ≤ ks.length → Pv i σ H → H d = some (.frz ob (.dT kvs)))
  (hs:∀ i x row σ H,ks[i]? = some row → RowAt H x row → Pv i σ H → g x σ H fun σ2 H2=>tb { D with nx:=Pv (i + 1),ct:=Pv (i + 1),bk:=D.nx } σ2 H2) (hd:∀ σ H,Pv ks.length σ H → D.nx σ H) :
  ∃ W:Nat → Nat → St → Hp → Prop,(∃ m,W 0 m σ H) ∧ ∀ i m σ H,W i m σ H →
   ((Itk ob d kvs).stop i H ∧ D.nx σ H) ∨ ((Itk ob d kvs).go i H ∧ ∃ N:St → Hp → Prop,(∀ σ' H',N σ' H' → ∃ m',m' < m ∧ W (i + 1) m' σ' H') ∧ ∀ x H',(Itk ob d kvs).yld i H x H' → g x σ H' fun σ2 H2=>tb { D with nx:=N,ct:=N,bk:=D.nx } σ2 H2):=by
 have hlen:kvs.length = ks.length:=by have:=congrArg List.length hk; rwa [List.length_map,List.length_map] at this
 refine ⟨fun i m σ H=>m = ks.length - i ∧ i ≤ ks.length ∧ Pv i σ H,⟨ks.length,by simp,Nat.zero_le _,h0⟩,?_⟩
 intro i m σ H h_
 refine zaa ?_; intro G_; obtain ⟨rfl,hi,p⟩:=h_
 have q:=hl i σ H hi p
 by_cases hlt:i < ks.length
 ·refine .inr ⟨⟨q,by lia⟩,Pv (i + 1),fun σ' H' p'=>⟨ks.length - (i + 1),by lia,rfl,hlt,p'⟩,fun x H' y=>?_⟩
  obtain ⟨e,y⟩:=y
  subst e
  refine zaa ?_; intro G_; obtain ⟨row,e1,e2⟩:=y ks hk
  exact hs i x row σ _ e1 e2 p
 ·have e:i = ks.length:=by lia
  subst e
  exact .inl ⟨⟨q,by lia⟩,hd σ H p⟩
end L2
namespace Prf
open PySem L2 Wr
theorem ziX {K:PySem.W.Frag} {mg:Str → Option Value} {WE:Addr} {c:Nat → Addr} (O:Errs K mg WE c) : PySem.W.kitAny K (.ref (c 0)) ([c 1,c 2,c 3,c 4,c 5,c 6].map Value.ref) = some false:=by
 simp only [List.map_cons,List.map_nil,PySem.W.kitAny]
 rw [O.kit 0 (by decide) 1 (by decide),O.kit 0 (by decide) 2 (by decide),O.kit 0 (by decide) 3 (by decide),O.kit 0 (by decide) 4 (by decide),O.kit 0 (by decide) 5 (by decide),O.kit 0 (by decide) 6 (by decide)]
 simp
def zbc:Cond → PyData
 | .same i j=>.tuple [.str "same", .int i,.int j]
 | .isv i n=>.tuple [.str "is", .int i,.int n]
 | .less i j=>.tuple [.str "below", .int i,.int j]
 | .undr i n=>.tuple [.str "under", .int i,.int n]
 | .both a b=>.tuple [.str "both", zbc a,zbc b]
 | .either a b=>.tuple [.str "either", zbc a,zbc b]
 | .neg a=>.tuple [.str "not", zbc a]
theorem zbP {K:PySem.W.Frag} {H:Hp} : ∀ {c:Cond} {v:V},CondAt H v c → Den K H v (zbc c)
 | .same i j,_,⟨t,h1,h2⟩=>h1 ▸ .tup (SqT.of h2) (.cons (.str _) (.cons (.int _) (.cons (.int _) .nil)))
 | .isv i n,_,⟨t,h1,h2⟩=>h1 ▸ .tup (SqT.of h2) (.cons (.str _) (.cons (.int _) (.cons (.int _) .nil)))
 | .less i j,_,⟨t,h1,h2⟩=>h1 ▸ .tup (SqT.of h2) (.cons (.str _) (.cons (.int _) (.cons (.int _) .nil)))
 | .undr i n,_,⟨t,h1,h2⟩=>h1 ▸ .tup (SqT.of h2) (.cons (.str _) (.cons (.int _) (.cons (.int _) .nil)))
 | .both a b,_,⟨t,va,vb,h1,h2,h3,h4⟩=>h1 ▸ .tup (SqT.of h2) (.cons (.str _) (.cons (zbP h3) (.cons (zbP h4) .nil)))
 | .either a b,_,⟨t,va,vb,h1,h2,h3,h4⟩=>h1 ▸ .tup (SqT.of h2) (.cons (.str _) (.cons (zbP h3) (.cons (zbP h4) .nil)))
 | .neg a,_,⟨t,va,h1,h2,h3⟩=>h1 ▸ .tup (SqT.of h2) (.cons (.str _) (.cons (zbP h3) .nil))
theorem zbj:∀ c:Cond,PyData.canLay0 (zbc c) = true ∧ PyData.depth (zbc c) ≤ c.deep + 1
 | .same i j=>by simp [zbc,PyData.canLay0,PyData.canLayAll0,PyData.depth,PyData.depthAll,Cond.deep]; decide +kernel
 | .isv i j=>by simp [zbc,PyData.canLay0,PyData.canLayAll0,PyData.depth,PyData.depthAll,Cond.deep]; decide +kernel
 | .less i j=>by simp [zbc,PyData.canLay0,PyData.canLayAll0,PyData.depth,PyData.depthAll,Cond.deep]; decide +kernel
 | .undr i j=>by simp [zbc,PyData.canLay0,PyData.canLayAll0,PyData.depth,PyData.depthAll,Cond.deep]; decide +kernel
 | .both a b=>by
  have h1:=zbj a
  have h2:=zbj b
  simp only [zbc,PyData.canLay0,PyData.canLayAll0,PyData.depth,PyData.depthAll,Cond.deep,h1.1,h2.1]
  exact ⟨by decide +kernel,by lia⟩
 | .either a b=>by
  have h1:=zbj a
  have h2:=zbj b
  simp only [zbc,PyData.canLay0,PyData.canLayAll0,PyData.depth,PyData.depthAll,Cond.deep,h1.1,h2.1]
  exact ⟨by decide +kernel,by lia⟩
 | .neg a=>by
  have h1:=zbj a
  simp only [zbc,PyData.canLay0,PyData.canLayAll0,PyData.depth,PyData.depthAll,Cond.deep,h1.1]
  exact ⟨by decide +kernel,by lia⟩
theorem zdJ {c:Cond} (h:c.deep < 60) : SeqAt.shaped (zbc c) = true:=by
 have e:=zbj c
 unfold SeqAt.shaped
 rw [e.1,Bool.true_and]
 exact decide_eq_true (by lia)
theorem zci:∀ c:Cond,PyData.eqv (zbc c) (zbc c) = true
 | .same i j=>by simp [zbc,PyData.eqv,PyData.eqvAll]
 | .isv i j=>by simp [zbc,PyData.eqv,PyData.eqvAll]
 | .less i j=>by simp [zbc,PyData.eqv,PyData.eqvAll]
 | .undr i j=>by simp [zbc,PyData.eqv,PyData.eqvAll]
 | .both a b=>by simp [zbc,PyData.eqv,PyData.eqvAll,zci a,zci b]
 | .either a b=>by simp [zbc,PyData.eqv,PyData.eqvAll,zci a,zci b]
 | .neg a=>by simp [zbc,PyData.eqv,PyData.eqvAll,zci a]
structure KnF (ob:Obj) (H0 H':Hp) (d:Addr) (n:Nat) (kn:Kn) : Prop where
 at':H' d = some (.frz ob (.dT (za7 kn)))
 nd:(kn.map (·.1)).Nodup
 ne:∀ q ∈ kn,q.1 ≠ []
 lit:∀ q ∈ kn,H' q.2.1 = some (.lst (q.2.2.map V.bl))
 ad:(kn.map (·.2.1)).Nodup
 len:∀ q ∈ kn,q.2.2.length = n + 1
 off:∀ b u,H0 b = some u → b ≠ d → b ∉ kn.map (·.2.1) → H' b = some u
theorem KnI.frz {ob:Obj} {H2 H':Hp} {d:Addr} {n:Nat} {kn:Kn} (h:KnI H2 H' d n kn) : KnF ob H' (upd H' d (.frz ob (.dT (za7 kn)))) d n kn:=by
 have nl:∀ q ∈ kn,q.2.1 ≠ d:=fun q hq z=>by have:=h.lit q hq; rw [z,h.at'] at this; cases this
 exact ⟨zab,h.nd,h.ne,fun q hq=>by rw [zad (nl q hq)]; exact h.lit q hq,h.ad,h.len,fun b u e n1 _=>by rw [zad n1]; exact e⟩
theorem SheetN.smR {H H' H'':Hp} {D:Addr} {es:List Ent} (h:SheetN H H' D es) (s:Same H' H'') : SheetN H H'' D es :=
 let ⟨xs,a,b⟩:=h; ⟨xs,s _ _ a,Paired.mapP b (by rintro _ _ ⟨t,p,q,x1,x2,x3,x4,x5,x6⟩; exact ⟨t,p,q,x1,s _ _ x2,s _ _ x3,x4.same s,x5,x6⟩)⟩
theorem SheetN.off {H H5 H':Hp} {D:Addr} {es:List Ent} (h:SheetN H H5 D es) (hD:H D = none) (fl:∀ b xs,H b = none → H5 b = some (.lst xs) → H' b = some (.lst xs)) (ft:∀ b xs,H5 b = some (.tup xs) → H' b = some (.tup xs)) : SheetN H H' D es:=by
 refine zaa ?_; intro G_; obtain ⟨xs,h1,h2⟩:=h
 exact ⟨xs,fl _ _ hD h1,Paired.mapP h2 (by rintro v e ⟨t,p,q,a1,a2,a3,⟨ys,a4,a5⟩,a6,a7⟩; exact ⟨t,p,q,a1,ft _ _ a2,ft _ _ a3,⟨ys,fl _ _ a6 a4,Paired.mapP a5 (by rintro v s ⟨t,b1,b2⟩; exact ⟨t,b1,ft _ _ b2⟩)⟩,a6,a7⟩)⟩
end Prf
namespace L2
open PySem
section
variable {g:TG} {tt:TT} {te:TE} {Q:VK} {σ:St} {H:Hp} {D:Addr}
theorem zbg {K:PySem.W.Frag} {a:Addr} {xs:List V} (Pv:Nat → List V → St → Hp → Prop) (h0:Pv 0 [] σ H) (hl:∀ i ys σ H,i ≤ xs.length → Pv i ys σ H → SqL K H a xs)
  (hs:let J:=Pv; ∀ i x ys σ H,xs[i]? = some x → J i ys σ H → g x σ H fun σ2 H2=>tt σ2 H2 fun b H3=>if b = true then te σ2 H3 fun v H4=>∃ zs,H4 D = some (.lst zs) ∧ zs.length < sizeLine ∧ ∃ ys',J (i + 1) ys' σ2 (upd H4 D (.lst (zs ++ [v]))) else ∃ ys',J (i + 1) ys' σ2 H3)
  (hd:∀ ys σ H,Pv xs.length ys σ H → Q (.ref D) H) : zdE (Itl K a) g tt te D Q σ H:=ziR Pv h0 hl hs hd
theorem zgH {lo:Int} {n:Nat} (Pv:Nat → St → Hp → Prop) (h0:Pv 0 σ H)
  (hs:let J:=Pv; ∀ i σ H,i < n → J i σ H → g (.int (lo + i)) σ H fun σ2 H2=>tt σ2 H2 fun b H3=>if b = true then te σ2 H3 fun v H4=>∃ zs,H4 D = some (.lst zs) ∧ zs.length < sizeLine ∧ J (i + 1) σ2 (upd H4 D (.lst (zs ++ [v]))) else J (i + 1) σ2 H3)
  (hd:∀ σ H,Pv n σ H → Q (.ref D) H) : zdE (Itr lo n) g tt te D Q σ H:=zhy Pv h0 hs hd
end
theorem zi0 {K:PySem.W.Frag} {a:Addr} {xs:List V} {g:TG} {tt:TT} {te:TE} {Q:VK} {σ:St} {H:Hp} {D:Addr} (Pv:Nat → St → Hp → Prop) (h0:Pv 0 σ H) (hl:∀ i σ H,i ≤ xs.length → Pv i σ H → SqT K H a xs)
  (hs:let J:=Pv; ∀ i x σ H,xs[i]? = some x → J i σ H → g x σ H fun σ2 H2=>tt σ2 H2 fun b H3=>if b = true then te σ2 H3 fun v H4=>∃ zs,H4 D = some (.lst zs) ∧ zs.length < sizeLine ∧ J (i + 1) σ2 (upd H4 D (.lst (zs ++ [v]))) else J (i + 1) σ2 H3)
  (hd:∀ σ H,Pv xs.length σ H → Q (.ref D) H) : zdE (Itt K a) g tt te D Q σ H:=zkL Pv h0 hl hs hd
theorem zh6 {K:PySem.W.Frag} {a:Addr} {xs:List V} {g:TG} {tb:TS} {D:Ends} {σ:St} {H:Hp} (Pv:Nat → St → Hp → Prop) (h0:Pv 0 σ H) (hl:∀ i σ H,i ≤ xs.length → Pv i σ H → SqL K H a xs)
  (hs:let J:=Pv; let E:=D; ∀ (i:Nat) x T σ H,xs[i]? = some x → J i σ H → H T = none → g (.ref T) σ (upd H T (.tup [.int i,x])) fun σ2 H2=>tb { E with nx:=J (i + 1),ct:=J (i + 1),bk:=E.nx } σ2 H2) (hd:∀ σ H,Pv xs.length σ H → D.nx σ H) :
  ∃ W:Nat → Nat → St → Hp → Prop,(∃ m,W 0 m σ H) ∧ ∀ i m σ H,W i m σ H →
   ((Ite K a).stop i H ∧ D.nx σ H) ∨ ((Ite K a).go i H ∧ ∃ N:St → Hp → Prop,(∀ σ' H',N σ' H' → ∃ m',m' < m ∧ W (i + 1) m' σ' H') ∧ ∀ x H',(Ite K a).yld i H x H' → g x σ H' fun σ2 H2=>tb { D with nx:=N,ct:=N,bk:=D.nx } σ2 H2):=zj9 Pv h0 hl hs hd
section
open PyProof.Rows
variable {P:Program} {w:World} {K:PySem.W.Frag} {mg:Str → Option Value} {base:Heap}
theorem Fun.okJL {x qual:Str} {st:Stmt} {f:Addr} {fd:FuncData} {N ps:List Str} {k:Nat} {sp:Sp} (F:Fun K x qual st f fd) (S:FnScope N ps (zae st)) (len:∀ vs H Q E,sp vs H Q E → vs.length = ps.length)
  (hbody:∀ (cdv:Value) (A:Around) (outer:List Env) (s:Shared) (H:Hp) (vs:List V) (Q:VK) (E:XK),Room k (A.deeper (envOfC qual (zae st) s.heap.objs.size f cdv)) → sp vs H Q E →
   let X:=(cxOf CX0 P w K mg base N qual (zae st) f cdv A outer s H E).nox; let D:Ends:={ nx:=fun _ H'=>Q .non H',rt:=Q }; ∃ t,JB X (za8 st) t ∧ t D (start N vs) H) : FnOk P w K mg base CX0 (k + 1) f fd ps sp:=F.okJ S len hbody
theorem Fun.okXL {x qual:Str} {st:Stmt} {f:Addr} {fd:FuncData} {N ps:List Str} {k:Nat} {sp:Sp} (F:Fun K x qual st f fd) (S:FnScope N ps (zae st)) (len:∀ vs H Q E,sp vs H Q E → vs.length = ps.length)
  (hbody:∀ (cdv:Value) (A:Around) (outer:List Env) (s:Shared) (H:Hp) (vs:List V) (Q:VK) (E:XK),Room k (A.deeper (envOfC qual (zae st) s.heap.objs.size f cdv)) → sp vs H Q E →
   let X:=(cxOf (CXe P w) P w K mg base N qual (zae st) f cdv A outer s H E); let D:Ends:={ nx:=fun _ H'=>Q .non H',rt:=Q }; ∃ t,JB X (za8 st) t ∧ t D (start N vs) H) : FnOk P w K mg base (CXe P w) (k + 1) f fd ps sp:=F.okX S len hbody
theorem zai {i:Nat} {v:V} {t u:TS} {D:Ends} {σ:St} {H:Hp} (h:let E:=D; let U:=u E; let S:=σ.set i (some v); t { E with nx:=U } S H) : zaL i v σ H (fun σ' H'=>tSeq t u D σ' H'):=h
end
end L2
namespace Prf
open PySem L2 Wr
end Prf
namespace L2
open PySem PySem.Spec PyProof.Rows
section
variable {X:Cx}
def zl1 (K:PySem.W.Frag) : R2:=fun x y H Q=>∃ a b xs ys,x = .ref a ∧ y = .ref b ∧ SqT K H a xs ∧ SqT K H b ys ∧ xs.length + ys.length ≤ sizeLine ∧
 (xs = [] → Q (.ref b) H) ∧ (xs ≠ [] → ys = [] → Q (.ref a) H) ∧ (xs ≠ [] → ys ≠ [] → ∀ p,H p = none → Q (.ref p) (upd H p (.tup (xs ++ ys))))
theorem zmm:OpR X (binaryOp .Add) (zl1 X.K):=by
 intro pins s σ H x y v u Q I rx ry h
 refine zaa ?_; intro G_; obtain ⟨a,b,xs,ys,rfl,rfl,ha,hb,hz,q0,q1,q2⟩:=h
 by_cases hx:xs = []
 ·cases rx
  cases ry
  refine zaa ?_; intro G_; obtain ⟨its,r1,p1,_⟩:=I.tuple ha
  refine zaa ?_; intro G_; obtain ⟨its2,r2,p2,_⟩:=I.tuple hb
  refine zaa ?_; intro G_; obtain ⟨⟨cls,dd,data,sl⟩,ho,hc,n,hd⟩:=id p1
  refine zaa ?_; intro G_; obtain ⟨⟨cls2,dd2,data2,sl2⟩,ho2,hc2,n2,hd2⟩:=id p2
  simp only at hc hd hc2 hd2
  subst hc hd hc2 hd2
  have e:its = []:=r1.nil_iff.mpr hx
  exact concat_meets ⟨_,ho,rfl⟩ ⟨_,ho2,rfl⟩ noFill_tuple_add seq_tuple_add PySem.F.slot_tuple_add PySem.F.entry_tuple_add (PySem.F.args_tuple_add_2 _ _)
   (tuple_addW0 a b its.toArray its2.toArray n n2 dd dd2 sl sl2 (by simp [e])) ⟨ho,ho2,⟨.ref b,H,I,rfl,q0 hx⟩⟩
 ·exact zmc pins s σ H _ _ v u Q I rx ry ⟨a,b,xs,ys,rfl,rfl,ha,hb,hx,hz,q1 hx,q2 hx⟩
theorem zgQ:JOp X (binaryOp .Add) (zl1 X.K):=⟨zmm⟩
variable {pos p2:Pos} {a b:Expr} {ta tb:TE}
theorem zji (ha:JE X a ta) (hb:JE X b tb) : JE X (.Subscript a (.Slice none (some b) none p2) pos) (tSl (rSlT X.K) ta zeU (zki tb)):=⟨ze2 zlw ha.h zgE (zgv hb.h)⟩
end
theorem cutT (xs:List V) (m:Nat) : cutV xs (some (m:Int)) none = xs.drop m:=by
 unfold cutV
 have e1:HT.sIx xs.length xs.length none = xs.length:=rfl
 have e2:HT.sIx xs.length 0 (some (m:Int)) = min m xs.length:=HT.sIx_nat ..
 rw [e1,e2]
 by_cases h:m ≤ xs.length
 ·rw [Nat.min_eq_left h,List.take_of_length_le (by rw [List.length_drop]; exact Nat.le_refl _)]
 ·rw [Nat.min_eq_right (by lia),List.drop_of_length_le (Nat.le_refl _),List.drop_of_length_le (by lia)]; simp
end L2
namespace Prf
open PySem L2 Wr
theorem zeq {g:List Int} {a b:Int} (h:a ≤ b) : zan g a ≤ zan g b:=by
 unfold zan
 induction g with
 | nil=>exact Nat.le_refl _
 | cons x g ih =>
  rw [List.filter_cons,List.filter_cons]
  by_cases h1:x ≤ a
  ·rw [if_pos (decide_eq_true h1),if_pos (decide_eq_true (by lia))]
   simp only [List.length_cons]; lia
  ·rw [if_neg (by simpa using h1)]
   split
   ·simp only [List.length_cons]; lia
   ·exact ih
theorem zlG {z:List Stt} {s:Stt} {b:Int} (hz:Can z) (hs:s ∈ z) (hb:s.2 = some b) : zag b z = false:=by
 have hbm:b ∈ bnds z:=List.mem_flatMap.mpr ⟨s,hs,by rw [hb]; simp⟩
 have ht:=ze0 (s:=fe z) (zbw hz) hbm
 rw [← zeo hz,← zeo hz] at ht
 have hin:zag (b - 1) z = true:=List.any_eq_true.mpr ⟨s,hs,zbn.mpr ⟨fun a ha=>by have:=hz.1 s hs a b ha hb; lia,fun b' hb'=>by rw [hb] at hb'; cases hb'; lia⟩⟩
 rw [hin] at ht
 cases h:zag b z with
 | false=>rfl
 | true=>exact absurd h ht
theorem zfa {z:List Stt} {g:List Int} {φ:Nat → Bool} (hz:Can z) (h:∀ m,zag m z = φ (zan g m)) : z.length ≤ ((List.range (g.length + 1)).filter φ).length:=by
 have pk:∀ s:Stt,∃ m:Int,s ∈ z → inS m s = true:=fun s=>by
  by_cases hs:s ∈ z
  ·obtain ⟨m,hm⟩:=zla (hz.1 s hs); exact ⟨m,fun _=>hm⟩
  ·exact ⟨0,fun x=>absurd x hs⟩
 let pick:Stt → Int:=fun s=>Classical.choose (pk s)
 have hp:∀ s ∈ z,inS (pick s) s = true:=fun s hs=>Classical.choose_spec (pk s) hs
 have hin:∀ s ∈ z,φ (zan g (pick s)) = true:=fun s hs=>by rw [← h]; exact List.any_eq_true.mpr ⟨s,hs,hp s hs⟩
 have lt:∀ s ∈ z,∀ t ∈ z,Apart s t → zan g (pick s) < zan g (pick t):=fun s hs t ht ⟨b,c,e1,e2,bc⟩=>by
  have h1:=(zbn.mp (hp s hs)).2 b e1
  have h2:=(zbn.mp (hp t ht)).1 c e2
  have m1:zan g (pick s) ≤ zan g b:=zeq (by lia)
  have m2:zan g b ≤ zan g (pick t):=zeq (by lia)
  have ne:zan g (pick s) ≠ zan g b:=fun e=>by
   have q1:=hin s hs
   rw [e,← h,zlG hz hs e1] at q1
   cases q1
  lia
 have nd:(z.map fun s=>zan g (pick s)).Nodup:=by
  rw [List.Nodup,List.pairwise_map]
  exact (List.Pairwise.imp_of_mem (fun hs ht ap=>Nat.ne_of_lt (lt _ hs _ ht ap)) hz.2)
 have:=zaP nd (m:=(List.range (g.length + 1)).filter φ) fun x hx=>by
  refine zaa ?_; intro G_; obtain ⟨s,hs,rfl⟩:=List.mem_map.mp hx
  exact List.mem_filter.mpr ⟨List.mem_range.mpr (by have:=zaB g (pick s); lia),hin s hs⟩
 rw [List.length_map] at this
 exact this
theorem zdf {α:Type} {p q:α → Bool} : ∀ l:List α,(l.filter fun x=>p x && !q x).length + (l.filter fun x=>p x && q x).length = (l.filter p).length
 | []=>rfl
 | x :: l=>by
  have ih:=zdf (p:=p) (q:=q) l
  simp only [List.filter_cons]
  cases p x <;> cases q x <;> simp <;> lia
def top (i:Nat) : Stmt:=PySem.Challenge.pw_whenrows_k53_change.main.body.getD i (.Pass ⟨0,0,0,0⟩)
noncomputable def zjf : {s:Stmt // top 1 = s}:=⟨.FunctionDef _ _ _ _ _ _ _ _ _ _,rfl⟩
noncomputable abbrev ze8:Stmt:=zjf.1
noncomputable def zee : {s:Stmt // top 12 = s}:=⟨.FunctionDef _ _ _ _ _ _ _ _ _ _,rfl⟩
noncomputable abbrev zbW:Stmt:=zee.1
noncomputable def zcb : {s:Stmt // top 13 = s}:=⟨.FunctionDef _ _ _ _ _ _ _ _ _ _,rfl⟩
noncomputable abbrev zaS:Stmt:=zcb.1
noncomputable def zhx : {s:Stmt // top 14 = s}:=⟨.FunctionDef _ _ _ _ _ _ _ _ _ _,rfl⟩
noncomputable abbrev zed:Stmt:=zhx.1
noncomputable def zdN : {s:Stmt // top 15 = s}:=⟨.FunctionDef _ _ _ _ _ _ _ _ _ _,rfl⟩
noncomputable abbrev zbC:Stmt:=zdN.1
noncomputable def zge : {s:Stmt // top 16 = s}:=⟨.FunctionDef _ _ _ _ _ _ _ _ _ _,rfl⟩
noncomputable abbrev zc1:Stmt:=zge.1
noncomputable def zfc : {s:Stmt // top 17 = s}:=⟨.FunctionDef _ _ _ _ _ _ _ _ _ _,rfl⟩
noncomputable abbrev zb6:Stmt:=zfc.1
noncomputable def zlI : {s:Stmt // top 18 = s}:=⟨.FunctionDef _ _ _ _ _ _ _ _ _ _,rfl⟩
noncomputable abbrev zaY:Stmt:=zlI.1
noncomputable def zje : {s:Stmt // top 19 = s}:=⟨.FunctionDef _ _ _ _ _ _ _ _ _ _,rfl⟩
noncomputable abbrev zar:Stmt:=zje.1
noncomputable def zfr : {s:Stmt // top 20 = s}:=⟨.FunctionDef _ _ _ _ _ _ _ _ _ _,rfl⟩
noncomputable abbrev zcr:Stmt:=zfr.1
noncomputable def zhv : {s:Stmt // top 21 = s}:=⟨.FunctionDef _ _ _ _ _ _ _ _ _ _,rfl⟩
noncomputable abbrev zdM:Stmt:=zhv.1
noncomputable def zdn : {s:Stmt // top 22 = s}:=⟨.FunctionDef _ _ _ _ _ _ _ _ _ _,rfl⟩
noncomputable abbrev zbo:Stmt:=zdn.1
noncomputable def zeL : {s:Stmt // top 23 = s}:=⟨.FunctionDef _ _ _ _ _ _ _ _ _ _,rfl⟩
noncomputable abbrev zb3:Stmt:=zeL.1
noncomputable def zfL : {s:Stmt // top 25 = s}:=⟨.FunctionDef _ _ _ _ _ _ _ _ _ _,rfl⟩
noncomputable abbrev zcp:Stmt:=zfL.1
noncomputable def zbG : {s:Stmt // top 26 = s}:=⟨.FunctionDef _ _ _ _ _ _ _ _ _ _,rfl⟩
noncomputable abbrev zaD:Stmt:=zbG.1
noncomputable def zfK : {s:Stmt // top 27 = s}:=⟨.FunctionDef _ _ _ _ _ _ _ _ _ _,rfl⟩
noncomputable abbrev zcx:Stmt:=zfK.1
noncomputable def zhQ : {s:Stmt // top 29 = s}:=⟨.FunctionDef _ _ _ _ _ _ _ _ _ _,rfl⟩
noncomputable abbrev zdD:Stmt:=zhQ.1
noncomputable def zfg : {s:Stmt // top 30 = s}:=⟨.FunctionDef _ _ _ _ _ _ _ _ _ _,rfl⟩
noncomputable abbrev zca:Stmt:=zfg.1
noncomputable def zeG : {s:Stmt // top 32 = s}:=⟨.FunctionDef _ _ _ _ _ _ _ _ _ _,rfl⟩
noncomputable abbrev zb5:Stmt:=zeG.1
noncomputable def zfX : {s:Stmt // top 33 = s}:=⟨.FunctionDef _ _ _ _ _ _ _ _ _ _,rfl⟩
noncomputable abbrev zcD:Stmt:=zfX.1
noncomputable def zeY : {s:Stmt // top 34 = s}:=⟨.FunctionDef _ _ _ _ _ _ _ _ _ _,rfl⟩
noncomputable abbrev zb0:Stmt:=zeY.1
noncomputable def zdq : {s:Stmt // top 35 = s}:=⟨.FunctionDef _ _ _ _ _ _ _ _ _ _,rfl⟩
noncomputable abbrev zbk:Stmt:=zdq.1
noncomputable def zeI : {s:Stmt // top 36 = s}:=⟨.FunctionDef _ _ _ _ _ _ _ _ _ _,rfl⟩
noncomputable abbrev zce:Stmt:=zeI.1
noncomputable def zdj : {s:Stmt // top 37 = s}:=⟨.FunctionDef _ _ _ _ _ _ _ _ _ _,rfl⟩
noncomputable abbrev zbu:Stmt:=zdj.1
noncomputable def zfB : {s:Stmt // top 38 = s}:=⟨.FunctionDef _ _ _ _ _ _ _ _ _ _,rfl⟩
noncomputable abbrev zcB:Stmt:=zfB.1
noncomputable def zei : {s:Stmt // top 39 = s}:=⟨.FunctionDef _ _ _ _ _ _ _ _ _ _,rfl⟩
noncomputable abbrev zbV:Stmt:=zei.1
noncomputable def zcQ : {s:Stmt // top 40 = s}:=⟨.FunctionDef _ _ _ _ _ _ _ _ _ _,rfl⟩
noncomputable abbrev za6:Stmt:=zcQ.1
noncomputable def zeg : {s:Stmt // top 41 = s}:=⟨.FunctionDef _ _ _ _ _ _ _ _ _ _,rfl⟩
noncomputable abbrev zbX:Stmt:=zeg.1
noncomputable def zdi : {s:Stmt // top 42 = s}:=⟨.FunctionDef _ _ _ _ _ _ _ _ _ _,rfl⟩
noncomputable abbrev zbl:Stmt:=zdi.1
noncomputable def zdk : {s:Stmt // top 43 = s}:=⟨.FunctionDef _ _ _ _ _ _ _ _ _ _,rfl⟩
noncomputable abbrev zbp:Stmt:=zdk.1
noncomputable def zl5 : {s:Stmt // top 44 = s}:=⟨.FunctionDef _ _ _ _ _ _ _ _ _ _,rfl⟩
noncomputable abbrev zen:Stmt:=zl5.1
section
variable {P:Program} {w:World} {K:PySem.W.Frag} {mg:Str → Option Value} {base:Heap}
def mixF (c j:Int) : Int:=if c % 2 = 1 ∧ c / 2 ^ (27:Int).toNat ≠ 0 then c / 2 ^ (1 + 20 * j).toNat % 1048576 else
 (((c * (2 * j + 3) + j) % 2147483629 * ((c * (2 * j + 3) + j) % 2147483629) + 1) * 48271 % 2147483629) * (((c * (2 * j + 3) + j) % 2147483629 * ((c * (2 * j + 3) + j) % 2147483629) + 1) * 48271 % 2147483629) % 2147483587
theorem zlE (c j:Int) : 0 ≤ mixF c j:=by unfold mixF; split <;> exact Int.emod_nonneg _ (by decide)
def zdO:Sp:=fun vs H Q _=>∃ (c j:Int),vs = [.int c,.int j] ∧ 0 ≤ j ∧ j ≤ 1000 ∧ Q (.int (mixF c j)) H
def zhX:Sp:=fun vs H Q _=>∃ (c j:Int),vs = [.int c,.int j] ∧ 0 ≤ j ∧ j ≤ 1000 ∧ ∀ r:Int,0 ≤ r → Q (.int r) H
theorem zks (vs:List V) (H:Hp) (Q:VK) (E:XK) (h:zhX vs H Q E) : zdO vs H Q E:=let ⟨c,j,e,a,b,k⟩:=h; ⟨c,j,e,a,b,k _ (zlE c j)⟩
theorem zlN:FnScope ["_law_cell","_law_j","_law_number"] ["_law_cell","_law_j"] (zae zcD):=⟨rfl,rfl,rfl,by decide +kernel,rfl,by decide +kernel,by decide +kernel⟩
theorem zil {f:Addr} {fd:FuncData} (F:Fun K "_law_mix" "_law_mix" zcD f fd) : FnOk P w K mg base CX0 1 f fd ["_law_cell","_law_j"] zdO:=by
 refine F.okJL zlN (fun vs H Q E h=>?_) (fun cdv A outer s H vs Q E hr h=>?_)
 ·refine zaa ?_; intro G_; obtain ⟨c,j,rfl,_⟩:=h
  rfl
 ·intro X_ D_; refine zaa ?_; intro G_; obtain ⟨c,j,rfl,j0,j1,k⟩:=h
  refine ⟨_,zac (s_if (JW.jt (w_and (zaZ o_eq (e_op zaK (e_v 0) e_i) e_i) (zcW (zaZ o_ne (e_op zkp (e_v 0) e_i) e_i))))
    (zaj (zas (e_op zaK (e_op zkp (e_v 0) (e_op zbb e_i (e_op zdH e_i (e_v 1)))) e_i))) zaW)
   (zac (zam 2 zlN.nd (e_op zaK (e_op zbb (e_op zdH (e_v 0) (e_op zbb (e_op zdH e_i (e_v 1)) e_i)) (e_v 1)) e_i))
   (zac (zam 2 zlN.nd (e_op zaK (e_op zdH (e_op zbb (e_op zdH (e_v 2) (e_v 2)) e_i) e_i) e_i))
   (zaj (zas (e_op zaK (e_op zdH (e_v 2) (e_v 2)) e_i))))),?_⟩
  have two:∀ D:Ends,D.rt = Q → ¬ (c % 2 = 1 ∧ c / 2 ^ (27:Int).toNat ≠ 0) → tSeq (tAsg (tOp (rI (fun _ j=>0 < j) fun i j=>.int (i % j)) (tOp (rI0 fun i j=>.int (i + j)) (tOp (rI CMul fun i j=>.int (i * j)) (tVar 0) (tOp (rI0 fun i j=>.int (i + j)) (tOp (rI CMul fun i j=>.int (i * j)) (tC (.int 2)) (tVar 1)) (tC (.int 3)))) (tVar 1)) (tC (.int 2147483629))) (zaL 2))
    (tSeq (tAsg (tOp (rI (fun _ j=>0 < j) fun i j=>.int (i % j)) (tOp (rI CMul fun i j=>.int (i * j)) (tOp (rI0 fun i j=>.int (i + j)) (tOp (rI CMul fun i j=>.int (i * j)) (tVar 2) (tVar 2)) (tC (.int 1))) (tC (.int 48271))) (tC (.int 2147483629))) (zaL 2))
    (tRet (tOp (rI (fun _ j=>0 < j) fun i j=>.int (i % j)) (tOp (rI CMul fun i j=>.int (i * j)) (tVar 2) (tVar 2)) (tC (.int 2147483587))))) D [some (.int c),some (.int j),none] H:=by
   intro D hD hno
   have ek:mixF c j = _:=if_neg hno
   rw [ek] at k
   refine (exg _ rfl ((exg _ rfl ⟨_,exg _ rfl ⟨rfl,.inl ⟨by decide,by decide⟩,_,exg _ rfl ⟨rfl,_,exg _ rfl ⟨rfl,.inr ⟨by lia,by lia⟩,exg _ rfl ⟨_,exg _ rfl ⟨rfl,_,exg _ rfl ⟨rfl,pz,?_⟩⟩⟩⟩⟩⟩⟩)))
   have a1:0 ≤ (c * (2 * j + 3) + j) % 2147483629:=Int.emod_nonneg _ (by decide)
   have a2:(c * (2 * j + 3) + j) % 2147483629 < 2147483629:=Int.emod_lt_of_pos _ (by decide)
   show tSeq _ _ D [some (.int c),some (.int j),some (.int ((c * (2 * j + 3) + j) % 2147483629))] H
   generalize (c * (2 * j + 3) + j) % 2147483629 = n1 at a1 a2 k ⊢
   with_reducible refine zah ?_; intro E_ U_
   refine (exg _ rfl ((exg _ rfl ⟨_,exg _ rfl ⟨rfl,.inl ⟨by lia,by lia⟩,_,exg _ rfl ⟨rfl,_,exg _ rfl ⟨rfl,.inr ⟨by decide,by decide⟩,_,exg _ rfl ⟨rfl,pz,?_⟩⟩⟩⟩⟩)))
   have b1:0 ≤ (n1 * n1 + 1) * 48271 % 2147483629:=Int.emod_nonneg _ (by decide)
   have b2:(n1 * n1 + 1) * 48271 % 2147483629 < 2147483629:=Int.emod_lt_of_pos _ (by decide)
   show tRet (tOp (rI (fun _ j=>0 < j) fun i j=>.int (i % j)) (tOp (rI CMul fun i j=>.int (i * j)) (tVar 2) (tVar 2)) (tC (.int 2147483587))) D [some (.int c),some (.int j),some (.int ((n1 * n1 + 1) * 48271 % 2147483629))] H
   generalize (n1 * n1 + 1) * 48271 % 2147483629 = n2 at b1 b2 k ⊢
   refine (exg _ rfl ((exg _ rfl ⟨_,exg _ rfl ⟨rfl,.inl ⟨by lia,by lia⟩,_,exg _ rfl ⟨rfl,pz,?_⟩⟩⟩)))
   show D.rt _ _
   rw [hD]
   exact k
  with_reducible refine zah ?_; intro E_ U_
  refine (exg _ rfl ⟨_,exg _ rfl ⟨rfl,pz,rfl,exg _ rfl ?_⟩⟩)
  refine ite2 (fun h1=>?_) (fun h1=>iteF (two _ rfl fun z=>h1 (decide_eq_true (congrArg V.int z.1))))
  refine (exg _ rfl ⟨_,exg _ rfl ⟨rfl,pn,rfl,exg _ rfl ?_⟩⟩)
  refine ite2 (fun h2=>?_) (fun h2=>two _ rfl fun z=>h2 (by simpa using z.2))
  refine (exg _ rfl ((exg _ rfl ⟨_,exg _ rfl ⟨rfl,.inl ⟨by decide,by decide⟩,_,exg _ rfl ⟨rfl,_,exg _ rfl ⟨rfl,by lia,_,exg _ rfl ⟨rfl,pz,?_⟩⟩⟩⟩⟩)))
  have ek:mixF c j = _:=if_pos ⟨V.int.inj (of_decide_eq_true h1),by simpa using h2⟩
  rw [ek] at k
  exact k
end
theorem zkW {g:List Int} {y x:Int} (hg:Inc g) {i:Nat} (hi:i + 1 = g.length) (hy:g[i]? = some y) (h:y < x) : Inc (g ++ [x]):=by
 refine List.pairwise_append.mpr ⟨hg,List.pairwise_singleton _ _,fun a ha b hb=>?_⟩
 rw [List.mem_singleton.mp hb]
 refine zaa ?_; intro G_; obtain ⟨j,hj,rfl⟩:=List.mem_iff_getElem.mp ha
 by_cases e:j = i
 ·subst e
  obtain ⟨h1,e1⟩:=List.getElem?_eq_some_iff.mp hy
  lia
 ·have:=zgb hg (i:=j) (j:=i) (x:=g[j]) (by simp [hj]) hy (by lia)
  lia
section
variable {P:Program} {w:World} {K:PySem.W.Frag} {mg:Str → Option Value} {base:Heap}
def zjy:Sp:=fun vs H Q _=>∃ (c:Int),vs = [.int c] ∧ ∀ (a:Addr) (H':Hp) (g:List Int),Same H H' → H a = none → H' a = some (.lst (g.map V.int)) → Inc g → 2 ≤ g.length → g.length ≤ 39 → (∀ x ∈ g,-(10 ^ 60 - 1) < x ∧ x < 10 ^ 60 - 1) → Q (.ref a) H'
theorem zdW:FnScope ["_law_cell","_law_many","_law_wide","_law_start","_law_found","_law_k"] ["_law_cell"] (zae zb0):=⟨rfl,rfl,rfl,by decide +kernel,rfl,by decide +kernel,by decide +kernel⟩
theorem zmS {f:Addr} {fd:FuncData} (F:Fun K "_law_grid" "_law_grid" zb0 f fd) (mr:mg "range" = none) (FM:FnP P w K mg base 1 "_law_mix" ["_law_cell","_law_j"] zhX) : FnOk P w K mg base CX0 2 f fd ["_law_cell"] zjy:=by
 refine F.okJL zdW (fun vs H Q E h=>?_) (fun cdv A outer s H vs Q E hr h=>?_)
 ·refine zaa ?_; intro G_; obtain ⟨c,rfl,_⟩:=h
  rfl
 ·intro X_ D_; refine zaa ?_; intro G_; obtain ⟨c,rfl,k⟩:=h
  refine ⟨_,zac (zam 1 zdW.nd (e_ix zaR (zbT (ac e_i (ac e_i (ac e_i (ac e_i (ac e_i (a1 e_i))))))) (e_op zaK (e_fn FM hr (ac (e_v 0) (a1 e_i))) e_i)))
   (zac (zam 2 zdW.nd (e_ix zaR (zbT (ac e_i (ac e_i (ac e_i (a1 (e_op zmh e_i e_i)))))) (e_op zaK (e_fn FM hr (ac (e_v 0) (a1 e_i))) e_i)))
   (zac (zam 3 zdW.nd (e_op zaK (e_v 0) (e_op zmh e_i e_i)))
   (zac (s_if (zaZ o_eq (e_op zaK (e_fn FM hr (ac (e_v 0) (a1 e_i))) e_i) e_i) (zaj (zam 3 zdW.nd (e_un zhL (e_v 3)))) zaW)
   (zac (zam 4 zdW.nd (zbT (a1 (e_v 3))))
   (zac (zc3 (zib mr (a1 (e_op zfY (e_v 1) e_i))) (g_n 5 zdW.nd)
    (zaj (zd4 (e_v 4) (e_op zbb (e_op zbb (e_ix zaR (e_v 4) (e_v 5)) e_i) (e_op zaK (e_fn FM hr (ac (e_v 0) (a1 (e_op zbb e_i (e_v 5))))) (e_v 2))))))
   (zaj (zas (e_v 4)))))))),?_⟩
  with_reducible refine zah ?_; intro E_ U_
  refine ⟨by show 6 ≤ sizeLine; decide,fun p1 h1=>?_⟩
  refine (exg _ rfl ⟨c,1,rfl,by decide,by decide,fun r hr1=>⟨_,exg _ rfl ⟨rfl,pz,?_⟩⟩⟩)
  have r1:0 ≤ r % 6:=Int.emod_nonneg _ (by decide)
  have r2:r % 6 < 6:=Int.emod_lt_of_pos _ (by decide)
  refine zaa ?_; intro G_; obtain ⟨many,hm,em⟩:=zdu (ns:=[2,3,5,8,12,38]) r1 (by simpa using r2)
  refine ⟨p1,_,_,exg _ rfl ⟨rfl,SqL.of zab,em,?_⟩⟩
  have hm2:2 ≤ many ∧ many ≤ 39:=by simp at hm; lia
  have s1:Same H (upd H p1 (.lst [.int 2,.int 3,.int 5,.int 8,.int 12,.int 38])):=(Same.refl H).upd h1
  generalize upd H p1 (.lst [.int 2,.int 3,.int 5,.int 8,.int 12,.int 38]) = H1 at s1 ⊢
  with_reducible refine zai ?_; intro E_ U_ S_
  refine ⟨_,exg _ rfl ⟨rfl,⟨by decide,by decide,by decide⟩,by show 4 ≤ sizeLine; decide,fun p2 h2=>?_⟩⟩
  refine (exg _ rfl ⟨c,2,rfl,by decide,by decide,fun r' hr2=>⟨_,exg _ rfl ⟨rfl,pz,?_⟩⟩⟩)
  have r3:0 ≤ r' % 4:=Int.emod_nonneg _ (by decide)
  have r4:r' % 4 < 4:=Int.emod_lt_of_pos _ (by decide)
  refine zaa ?_; intro G_; obtain ⟨wide,hw,ew⟩:=zdu (ns:=[1,2,3,10 ^ (20:Int).toNat]) r3 (by simpa using r4)
  refine ⟨p2,_,_,exg _ rfl ⟨rfl,SqL.of zab,ew,?_⟩⟩
  have hw2:0 < wide:=by
   simp at hw
   rcases hw with z | z | z | z
   ·lia
   ·lia
   ·lia
   ·rw [z]; decide
  have hw3:wide ≤ 10 ^ 20:=by
   simp at hw
   rcases hw with z | z | z | z
   ·rw [z]; decide
   ·rw [z]; decide
   ·rw [z]; decide
   ·rw [z]; decide
  have s2:Same H (upd H1 p2 (.lst [.int 1,.int 2,.int 3,.int (10 ^ (20:Int).toNat)])):=s1.trans ((Same.refl H1).upd h2)
  generalize upd H1 p2 (.lst [.int 1,.int 2,.int 3,.int (10 ^ (20:Int).toNat)]) = H2 at s2 ⊢
  with_reducible refine zai ?_; intro E_ U_ S_
  refine (exg _ rfl ⟨_,exg _ rfl ⟨rfl,⟨by decide,by decide,by decide⟩,_,exg _ rfl ⟨rfl,by show (0:Int) < 10 ^ (59:Int).toNat; decide,?_⟩⟩⟩)
  with_reducible refine zai ?_; intro E_ U_ S_
  refine (exg _ rfl ⟨c,3,rfl,by decide,by decide,fun r5 hr5=>⟨_,exg _ rfl ⟨rfl,pz,rfl,exg _ rfl ?_⟩⟩⟩)
  have rest:∀ st:Int,-(10 ^ 59) ≤ st → st ≤ 10 ^ 59 → tSeq (tAsg (tLst (zax (tVar 3) tNil)) (zaL 4)) (tSeq (tFor (zmd (zax (tOp (rI0 fun i j=>.int (i - j)) (tVar 1) (tC (.int 1))) tNil)) (zaL 5)
    (zf1 (tBM K "list" zcq (tVar 4) (zax (tOp (rI0 fun i j=>.int (i + j)) (tOp (rI0 fun i j=>.int (i + j)) (tOp (rIxL K) (tVar 4) (tVar 5)) (tC (.int 1)))
     (tOp (rI (fun _ j=>0 < j) fun i j=>.int (i % j)) (zek zhX [] E0 (zax (tVar 0) (zax (tOp (rI0 fun i j=>.int (i + j)) (tC (.int 4)) (tVar 5)) tNil))) (tVar 2))) tNil)))) (tRet (tVar 4)))
    { nx:=fun _ H'=>Q .non H',rt:=Q } [some (.int c),some (.int many),some (.int wide),some (.int st),none,none] H2:=by
   intro st b1 b2
   with_reducible refine zah ?_; intro E_ U_
   refine (exg _ rfl ⟨by show 1 ≤ sizeLine; decide,fun p3 h3=>?_⟩)
   with_reducible refine zai ?_; intro E_ U_ S_
   refine ⟨_,rfl,_,_,rfl,rfl,_,rfl,by lia,by lia,zem (n:=(many - 1).toNat) (fun i σ H3=>∃ (g:List Int) (o:Option V),σ = [some (.int c),some (.int many),some (.int wide),some (.int st),some (.ref p3),o] ∧ Same H2 H3 ∧ H3 p3 = some (.lst (g.map V.int)) ∧ Inc g ∧ g.length = i + 1 ∧ ∀ x ∈ g,-(10 ^ 59) ≤ x ∧ x ≤ 10 ^ 59 + i * 10 ^ 20)
    ⟨[st],none,rfl,(Same.refl _).upd h3,zab,List.pairwise_singleton _ _,rfl,fun x hx=>by rw [List.mem_singleton.mp hx]; exact ⟨b1,by simpa using b2⟩⟩ ?_ ?_⟩
   ·intro J_ E_; intro i σ H3 hi h_
    refine zaa ?_; intro G_; obtain ⟨g,o,rfl,sm,hp,inc,hlen,bd⟩:=h_
    have hil:i < g.length:=by lia
    have hgi:g[i]? = some g[i]:=by simp [hil]
    have e0:(0:Int) + (i:Int) = ((i:Nat) : Int):=by lia
    have hat:atI (g.map V.int) (0 + (i:Int)) = some (.int g[i]):=by rw [e0]; exact zaT (by simp [hil])
    refine (exg _ rfl ⟨.inl ⟨rfl,_,SqL.of hp⟩,?_⟩)
    refine (exg _ rfl ((exg _ rfl ⟨p3,_,_,exg _ rfl ⟨rfl,SqL.of hp,hat,_,exg _ rfl ⟨rfl,exg _ rfl ((exg _ rfl ⟨_,exg _ rfl ⟨rfl,c,exg _ rfl ⟨by lia,by lia,fun r6 hr6=>?_⟩⟩⟩))⟩⟩⟩)))
    refine (exg _ rfl ⟨_,exg _ rfl ⟨rfl,hw2,_,exg _ rfl ⟨rfl,p3,_,exg _ rfl ⟨rfl,hp,zal (by rw [List.length_map]; lia),?_⟩⟩⟩⟩)
    have hx:g[i] < g[i] + 1 + r6 % wide:=by
     have:=Int.emod_nonneg r6 (show wide ≠ 0 by lia)
     lia
    refine ⟨g ++ [g[i] + 1 + r6 % wide],exg _ rfl ⟨sm.upd h3,?_,zkW inc (by lia) hgi hx,by rw [List.length_append,List.length_singleton]; lia,fun x hxx=>?_⟩⟩
    ·rw [zab]
     simp
    ·have m1:=Int.emod_lt_of_pos r6 hw2
     have m2:=Int.emod_nonneg r6 (show wide ≠ 0 by lia)
     have bi:=bd g[i] (List.getElem_mem hil)
     have ei:((i + 1:Nat) : Int) * 10 ^ 20 = (i:Int) * 10 ^ 20 + 10 ^ 20:=by rw [Int.natCast_add,Int.add_mul]; simp
     have p20:(0:Int) ≤ 10 ^ 20:=by decide
     rw [ei]
     generalize (i:Int) * 10 ^ 20 = A at *
     generalize (10:Int) ^ 20 = B at *
     generalize (10:Int) ^ 59 = C at *
     generalize r6 % wide = D at *
     rcases List.mem_append.mp hxx with z | z
     ·have:=bd x z; lia
     ·rw [List.mem_singleton.mp z]; lia
   ·intro σ H3 h_
    refine zaa ?_; intro G_; obtain ⟨g,o,rfl,sm,hp,inc,hlen,bd⟩:=h_
    refine (exg _ rfl (k p3 H3 g (s2.trans sm) (s2.free h3) hp inc (by lia) (by lia) fun x hx=>?_))
    have bx:=bd x hx
    have hm:(((many - 1).toNat:Nat) : Int) * 10 ^ 20 ≤ 38 * 10 ^ 20:=Int.mul_le_mul_of_nonneg_right (by lia) (by decide)
    have q1:(38:Int) * 10 ^ 20 ≤ 10 ^ 59:=by decide
    have q2:(10:Int) ^ 60 = 10 * 10 ^ 59:=by decide
    have q3:(1:Int) < 10 ^ 59:=by decide
    rw [q2]
    generalize (((many - 1).toNat:Nat) : Int) * 10 ^ 20 = A at *
    generalize (38:Int) * 10 ^ 20 = B at *
    generalize (10:Int) ^ 59 = C at *
    lia
  have c1:0 ≤ c % 10 ^ (59:Int).toNat:=Int.emod_nonneg _ (by decide)
  have c2:c % 10 ^ (59:Int).toNat < 10 ^ (59:Int).toNat:=Int.emod_lt_of_pos _ (by decide)
  have e59:(10:Int) ^ (59:Int).toNat = 10 ^ 59:=rfl
  refine ite2 (fun _=>?_) (fun _=>rest _ (by rw [e59] at *; lia) (by rw [e59] at *; lia))
  exact (exg _ rfl ((exg _ rfl (rest _ (by rw [e59] at *; lia) (by rw [e59] at *; lia)))))
def ziW:Sp:=fun vs H Q _=>∃ (a:Addr) (g:List Int) (f l:Nat),vs = [.ref a,.int f,.int l] ∧ H a = some (.lst (g.map V.int)) ∧ f ≤ g.length ∧ ∀ t,H t = none → Q (.ref t) (upd H t (.tup [vO (stt g f l).1,vO (stt g f l).2]))
theorem ziL:FnScope ["_law_grid_here","_law_first","_law_last","_law_start","_law_end"] ["_law_grid_here","_law_first","_law_last"] (zae zbk):=⟨rfl,rfl,rfl,by decide +kernel,rfl,by decide +kernel,by decide +kernel⟩
theorem znh {f:Addr} {fd:FuncData} (F:Fun K "_law_stretch" "_law_stretch" zbk f fd) (ml:mg "len" = none) : FnOk P w K mg base CX0 1 f fd ["_law_grid_here","_law_first","_law_last"] ziW:=by
 refine F.okJL ziL (fun vs H Q E h=>?_) (fun cdv A outer s H vs Q E hr h=>?_)
 ·refine zaa ?_; intro G_; obtain ⟨a,g,f,l,rfl,_⟩:=h
  rfl
 ·intro X_ D_; refine zaa ?_; intro G_; obtain ⟨a,g,f,l,rfl,ha,hf,k⟩:=h
  refine ⟨_,zac (zam 3 ziL.nd e_n) (zac (zam 4 ziL.nd e_n)
   (zac (s_if (zaZ o_gt (e_v 1) e_i) (zaj (zam 3 ziL.nd (e_ix zaR (e_v 0) (e_op zfY (e_v 1) e_i)))) zaW)
   (zac (s_if (zaZ o_lt (e_v 2) (e_cb zdp ml PySem.boot_len (a1 (e_v 0)))) (zaj (zam 4 ziL.nd (e_ix zaR (e_v 0) (e_v 2)))) zaW)
   (zaj (zas (za5 (ac (e_v 3) (a1 (e_v 4))))))))),?_⟩
  have second:∀ v:V,v = vO (stt g f l).1 → tSeq (tIfS (zhI (tOp (rI0 fun i j=>.bl (decide (i < j))) (tVar 2) (tCB (fun xs H Q=>∃ p ys,xs = [.ref p] ∧ (SqL K H p ys ∨ SqT K H p ys) ∧ Q (.int ys.length) H) (zax (tVar 0) tNil))))
    (tAsg (tOp (rIxL K) (tVar 0) (tVar 2)) (zaL 4)) zi3) (tRet (tTup (zax (tVar 3) (zax (tVar 4) tNil)))) { nx:=fun _ H'=>Q .non H',rt:=Q } [some (.ref a),some (.int f),some (.int l),some v,some .non] H:=by
   intro v hv
   with_reducible refine zah ?_; intro E_ U_
   refine (exg _ rfl ((exg _ rfl ⟨a,exg _ rfl ⟨.inl (SqL.of ha),_,exg _ rfl ⟨rfl,exg _ rfl ?_⟩⟩⟩)))
   refine ite2 (fun hc=>?_) (fun hc=>?_)
   ·have hl:l < g.length:=by
     have:=of_decide_eq_true hc
     rw [List.length_map] at this
     lia
    refine (exg _ rfl ((exg _ rfl ⟨a,_,_,exg _ rfl ⟨rfl,SqL.of ha,zaT (v:=.int g[l]) (by simp [hl]),?_⟩⟩)))
    refine (exg _ rfl ((exg _ rfl ⟨by show 2 ≤ sizeLine; decide,fun t ht=>?_⟩)))
    have e2:(V.int g[l]) = vO (stt g f l).2:=by show _ = vO (g[l]?); simp [hl,vO]
    rw [hv,e2]
    exact k t ht
   ·have hl : ¬ l < g.length:=by
     intro z
     refine hc (decide_eq_true ?_)
     rw [List.length_map]
     lia
    refine (exg _ rfl ((exg _ rfl ⟨by show 2 ≤ sizeLine; decide,fun t ht=>?_⟩)))
    have e2:V.non = vO (stt g f l).2:=by show _ = vO (g[l]?); rw [List.getElem?_eq_none (by lia)]; rfl
    rw [hv,e2]
    exact k t ht
  with_reducible refine zah ?_; intro E_ U_
  refine (exg _ rfl ⟨_,exg _ rfl ⟨rfl,exg _ rfl ?_⟩⟩)
  refine ite2 (fun hc=>?_) (fun hc=>?_)
  ·have h0:0 < f:=by have:=of_decide_eq_true hc; lia
   have hl:f - 1 < g.length:=by lia
   have e1:((f:Nat) : Int) - 1 = ((f - 1:Nat) : Int):=by lia
   refine (exg _ rfl ((exg _ rfl ⟨_,exg _ rfl ⟨rfl,a,_,_,exg _ rfl ⟨rfl,SqL.of ha,(by rw [e1]; exact zaT (v:=.int g[f - 1]) (by simp [hl])),second _ ?_⟩⟩⟩)))
   show _ = vO (if f = 0 then none else g[f - 1]?)
   rw [if_neg (by lia)]
   simp [hl,vO]
  ·have h0:f = 0:=by
    refine Nat.eq_zero_of_not_pos fun z=>hc (decide_eq_true ?_)
    lia
   refine second _ ?_
   show _ = vO (if f = 0 then none else g[f - 1]?)
   rw [if_pos h0]
   rfl
end
section
variable {P:Program} {w:World} {K:PySem.W.Frag} {mg:Str → Option Value} {base:Heap}
def zg2:Sp:=fun vs H Q _=>∃ (a b:Addr) (g:List Int) (lit:List Bool),vs = [.ref a,.ref b] ∧ H a = some (.lst (g.map V.int)) ∧ H b = some (.lst (lit.map V.bl)) ∧ Inc g ∧ lit.length = g.length + 1 ∧ g.length ≤ 39 ∧
 ∀ (r:Addr) (H':Hp) (zs:List Stt),Same H H' → H r = none → SpanAt H' r zs → zs.length ≤ 50 → Can zs → (∀ m,zag m zs = (lit[zan g m]?).getD false) → Q (.ref r) H'
theorem zeC:FnScope ["_law_grid_here","_law_lit","_law_found","_law_first","_law_last"] ["_law_grid_here","_law_lit"] (zae zce):=⟨rfl,rfl,rfl,by decide +kernel,rfl,by decide +kernel,by decide +kernel⟩
theorem zmH {f : Addr} {fd : FuncData} (F : Fun K "_law_span" "_law_span" zce f fd) (ml : mg "len" = none) (FS : FnP P w K mg base 1 "_law_stretch" ["_law_grid_here", "_law_first", "_law_last"] ziW) : FnOk P w K mg base CX0 2 f fd ["_law_grid_here", "_law_lit"] zg2 := by
  refine F.okJL zeC (fun vs H Q E h=>?_) (fun cdv A outer s H vs Q E hr h=>?_)
  · refine zaa ?_; intro G_; obtain ⟨a,b,g,lit,rfl,_⟩:=h
    rfl
  · intro X_ D_; refine zaa ?_; intro G_; obtain ⟨a, b, g, lit, rfl, ha, hb, inc, hlen, h39, k⟩ := h
    refine ⟨_,zac (zam 2 zeC.nd (zbT a0)) (zac (zam 3 zeC.nd e_i)
      (zac (zjp (zaZ o_lt (e_v 3) (e_cb zdp ml PySem.boot_len (a1 (e_v 1))))
        (zac (zam 4 zeC.nd (e_v 3))
        (zac (zjp (JW.jt (w_and (zaZ o_lt (e_v 4) (e_cb zdp ml PySem.boot_len (a1 (e_v 1)))) (zcW (zm1 (e_ix zaR (e_v 1) (e_v 4)))))) (zaj (zam 4 zeC.nd (e_op zbb (e_v 4) e_i))))
        (zac (s_if (zaZ o_gt (e_v 4) (e_v 3)) (zaj (zd4 (e_v 2) (e_fn FS hr (ac (e_v 0) (ac (e_v 3) (a1 (e_op zfY (e_v 4) e_i))))))) zaW)
        (zaj (zam 3 zeC.nd (e_op zbb (e_v 4) e_i)))))))
      (zaj (zas (e_v 2))))),?_⟩
    with_reducible refine zah ?_; intro E_ U_
    refine ⟨Nat.zero_le _,fun r hr0=>?_⟩
    with_reducible refine zai ?_; intro E_ U_ S_
    refine ⟨fun m σ H2=>∃ (n:Nat) (R:List (Nat × Nat)) (zs:List V) (o:Option V),m = lit.length + 1 - n ∧ n ≤ lit.length + 1 ∧ σ = [some (.ref a),some (.ref b),some (.ref r),some (.int n),o] ∧ Same H H2 ∧ H2 r = some (.lst zs) ∧
        StsAt H2 zs (R.map fun q=>stt g q.1 q.2) ∧ Runs lit R n ∧ zs.length ≤ n,
      ⟨_,0,[],[],none,rfl,Nat.zero_le _,rfl,(Same.refl H).upd hr0,zab,.nil,zhJ lit,Nat.le_refl _⟩,?_⟩
    intro m σ H2 h_
    refine zaa ?_; intro G_; obtain ⟨n,R,zs,o,rfl,hn1,rfl,sm,hz,st,runs,hzl⟩:=h_
    have hb2:H2 b = some (.lst (lit.map V.bl)):=sm _ _ hb
    refine (exg _ rfl ((exg _ rfl ⟨b,exg _ rfl ⟨.inl (SqL.of hb2),_,exg _ rfl ⟨rfl,exg _ rfl ?_⟩⟩⟩)))
    refine ite2 (fun hc=>?_) (fun hc=>?_)
    · have hn : n < lit.length := by
        have:=of_decide_eq_true hc
        rw [List.length_map] at this
        lia
      refine ⟨fun σ' H'=>∃ (n':Nat) (R:List (Nat × Nat)) (zs:List V) (o:Option V),n < n' ∧ n' ≤ lit.length + 1 ∧ σ' = [some (.ref a),some (.ref b),some (.ref r),some (.int n'),o] ∧ Same H H' ∧ H' r = some (.lst zs) ∧
          StsAt H' zs (R.map fun q=>stt g q.1 q.2) ∧ Runs lit R n' ∧ zs.length ≤ n',(by rintro σ' H' ⟨n',R',zs',o',h1,h2,h3,h4⟩; exact ⟨_,by lia,n',R',zs',o',rfl,h2,h3,h4⟩),?_⟩
      with_reducible refine zah ?_; intro E_ U_
      refine (exg _ rfl ?_)
      have tail : ∀ last : Nat, n ≤ last → last ≤ lit.length → (∀ k, n ≤ k → k < last → lit[k]? = some true) → (last < lit.length → lit[last]? = some false) →
          tSeq (tIfS (zhI (tOp (rI0 fun i j=>.bl (decide (j < i))) (tVar 4) (tVar 3))) (zf1 (tBM K "list" zcq (tVar 2) (zax (zek ziW [] E0 (zax (tVar 0) (zax (tVar 3) (zax (tOp (rI0 fun i j=>.int (i - j)) (tVar 4) (tC (.int 1))) tNil)))) tNil))) zi3)
            (tAsg (tOp (rI0 fun i j=>.int (i + j)) (tVar 4) (tC (.int 1))) (zaL 3))
            { nx := fun σ' H' => ∃ (n' : Nat) (R : List (Nat × Nat)) (zs : List V) (o : Option V), n < n' ∧ n' ≤ lit.length + 1 ∧ σ' = [some (.ref a), some (.ref b), some (.ref r), some (.int n'), o] ∧ Same H H' ∧ H' r = some (.lst zs) ∧
                StsAt H' zs (R.map fun q=>stt g q.1 q.2) ∧ Runs lit R n' ∧ zs.length ≤ n',rt:=Q,
              bk:=fun σ H=>tRet (tVar 2) { nx:=fun _ H'=>Q .non H',rt:=Q } σ H,
              ct:=fun σ' H'=>∃ (n':Nat) (R:List (Nat × Nat)) (zs:List V) (o:Option V),n < n' ∧ n' ≤ lit.length + 1 ∧ σ' = [some (.ref a),some (.ref b),some (.ref r),some (.int n'),o] ∧ Same H H' ∧ H' r = some (.lst zs) ∧
                StsAt H' zs (R.map fun q=>stt g q.1 q.2) ∧ Runs lit R n' ∧ zs.length ≤ n' }
            [some (.ref a),some (.ref b),some (.ref r),some (.int n),some (.int last)] H2:=by
        intro last h1 h2 ht hf
        with_reducible refine zah ?_; intro E_ U_
        refine (exg _ rfl ((exg _ rfl ⟨_,exg _ rfl ⟨rfl,exg _ rfl ?_⟩⟩)))
        have ein:((last:Nat) : Int) + 1 = ((last + 1:Nat) : Int):=by lia
        refine ite2 (fun hc=>?_) (fun hc=>?_)
        · have hlt:n < last:=by have:=of_decide_eq_true hc; lia
          have e1:((last:Nat) : Int) - 1 = ((last - 1:Nat) : Int):=by lia
          refine (exg _ rfl ⟨.inl ⟨rfl,_,SqL.of hz⟩,exg _ rfl ((exg _ rfl ((exg _ rfl ⟨_,exg _ rfl ⟨rfl,a,g,n,last - 1,?_,sm _ _ ha,by lia,fun t ht'=>?_⟩⟩))))⟩)
          · show [V.ref a,V.int n,V.int ((last:Int) - 1)] = _
            rw [e1]
          have sm3:Same H2 (upd H2 t (.tup [vO (stt g n (last - 1)).1,vO (stt g n (last - 1)).2])):=(Same.refl _).upd ht'
          refine ⟨r,zs,exg _ rfl ⟨rfl,sm3 _ _ hz,zal (by lia),?_⟩⟩
          refine (exg _ rfl ⟨_,exg _ rfl ⟨rfl,last + 1,R ++ [(n,last - 1)],zs ++ [.ref t],some (.int last),by lia,by lia,?_,fun c u e=>?_,zab,?_,ziI runs hlt h2 ht hf,by rw [List.length_append,List.length_singleton]; lia⟩⟩)
          · show [some (V.ref a),some (V.ref b),some (V.ref r),some (V.int ((last:Int) + 1)),some (V.int last)] = _
            rw [ein]
          · rw [zad (zaf e hr0)]; exact sm3 _ _ (sm c u e)
          · rw [List.map_append]
            exact StsAt.wr (za3 (sm3 _ _ hz)) (zak (R:=StAt (upd H2 t (.tup [vO (stt g n (last - 1)).1,vO (stt g n (last - 1)).2]))) ⟨t,rfl,zab⟩ (StsAt.same sm3 st))
        · have hlt:last = n:=by
            have : ¬ n < last:=fun z=>hc (decide_eq_true (by lia))
            lia
          subst hlt
          refine (exg _ rfl ⟨_,exg _ rfl ⟨rfl,last + 1,R,zs,some (.int last),by lia,by lia,?_,sm,hz,st,zju runs hf,by lia⟩⟩)
          show [some (V.ref a),some (V.ref b),some (V.ref r),some (V.int ((last:Int) + 1)),some (V.int last)] = _
          rw [ein]
      with_reducible refine zai ?_; intro E_ U_ S_
      refine ⟨fun m σ H3=>∃ last:Nat,m = lit.length - last ∧ σ = [some (.ref a),some (.ref b),some (.ref r),some (.int n),some (.int last)] ∧ H3 = H2 ∧ n ≤ last ∧ last ≤ lit.length ∧ ∀ k,n ≤ k → k < last → lit[k]? = some true,
        ⟨_,n,rfl,rfl,rfl,Nat.le_refl _,by lia,fun k h1 h2=>by lia⟩,?_⟩
      intro m σ H3 h_
      refine zaa ?_; intro G_; obtain ⟨last,rfl,rfl,rfl,h1,h2,h3⟩:=h_
      refine (exg _ rfl ((exg _ rfl ⟨b,exg _ rfl ⟨.inl (SqL.of hb2),_,exg _ rfl ⟨rfl,exg _ rfl ?_⟩⟩⟩)))
      refine ite2 (fun hc=>?_) (fun hc=>?_)
      · have hl:last < lit.length:=by
          have:=of_decide_eq_true hc
          rw [List.length_map] at this
          lia
        refine (exg _ rfl ((exg _ rfl ⟨b,_,_,.bl lit[last],rfl,rfl,SqL.of hb2,zaT (by simp [hl]),lit[last],rfl,?_⟩)))
        cases e:lit[last] with
        | true =>
          refine iteT ?_
          refine ⟨_,fun σ' H' z=>z,exg _ rfl ⟨_,exg _ rfl ⟨rfl,lit.length - (last + 1),by lia,last + 1,rfl,?_,rfl,by lia,by lia,fun k k1 k2=>?_⟩⟩⟩
          · have ein:((last:Nat) : Int) + 1 = ((last + 1:Nat) : Int):=by lia
            show [some (V.ref a),some (V.ref b),some (V.ref r),some (V.int n),some (V.int ((last:Int) + 1))] = _
            rw [ein]
          · by_cases hk:k < last
            · exact h3 k k1 hk
            · obtain rfl:k = last:=by lia
              simp [hl,e]
        | false =>
          refine iteF ?_
          exact tail last h1 h2 h3 fun _=>by simp [hl,e]
      · refine iteF ?_
        have hl : ¬ last < lit.length:=fun z=>hc (decide_eq_true (by rw [List.length_map]; lia))
        exact tail last h1 h2 h3 fun z=>absurd z hl
    · have hn:lit.length ≤ n:=by
        have : ¬ n < lit.length:=fun z=>hc (decide_eq_true (by rw [List.length_map]; lia))
        lia
      obtain ⟨c1,c2⟩:=zkj inc hlen hn runs
      have l1:zs.length = R.length:=by have:=Paired.length st; rw [List.length_map] at this; exact this
      exact (exg _ rfl (k r H2 _ sm hr0 ⟨zs,hz,st⟩ (by rw [List.length_map]; lia) c1 c2))
end
section
variable {P:Program} {w:World} {K:PySem.W.Frag} {mg:Str → Option Value} {base:Heap}
def keyO:Option Int → List Int
 | none=>[0,0]
 | some a=>[1,a]
def zgJ (K:PySem.W.Frag) : Sp:=fun vs H Q _=>∃ (p:Addr) (a b:Option Int),vs = [.ref p] ∧ SqT K H p [vO a,vO b] ∧ ∀ t,H t = none → Q (.ref t) (upd H t (.tup ((keyO a).map V.int)))
theorem zlT:FnScope ["stretch"] ["stretch"] (zae zbC):=⟨rfl,rfl,rfl,by decide +kernel,rfl,by decide +kernel,by decide +kernel⟩
theorem zj4 {f:Addr} {fd:FuncData} (F:Fun K "start_order" "start_order" zbC f fd) : FnOk P w K mg base CX0 1 f fd ["stretch"] (zgJ K):=by
 refine F.okJL zlT (fun vs H Q E h=>?_) (fun cdv A outer s H vs Q E hr h=>?_)
 ·refine zaa ?_; intro G_; obtain ⟨p,a,b,rfl,_⟩:=h
  rfl
 ·intro X_ D_; refine zaa ?_; intro G_; obtain ⟨p,a,b,rfl,hp,k⟩:=h
  refine ⟨_,zac (s_if (zlW ( (e_ix zaw (e_v 0) e_i))) (zaj (zas (za5 (ac e_i (a1 e_i))))) zaW)
   (zaj (zas (za5 (ac e_i (a1 (e_ix zaw (e_v 0) e_i)))))),?_⟩
  with_reducible refine zah ?_; intro E_ U_
  refine (exg _ rfl ⟨p,_,0,exg _ rfl ⟨rfl,hp,rfl,exg _ rfl ?_⟩⟩)
  cases a with
  | none =>
   refine iteT ?_
   exact ⟨by show 2 ≤ sizeLine; decide,fun t ht=>k t ht⟩
  | some a =>
   refine iteF ?_
   exact (exg _ rfl ⟨p,_,0,exg _ rfl ⟨rfl,hp,rfl,by show 2 ≤ sizeLine; decide,fun t ht=>k t ht⟩⟩)
def zgN (K:PySem.W.Frag) : Sp:=fun vs H Q _=>∃ (p:Addr) (a b s:Option Int),vs = [.ref p,vO s] ∧ SqT K H p [vO a,vO b] ∧ Q (.bl (zcH (a,b) s)) H
theorem zmL:FnScope ["stretch","start"] ["stretch","start"] (zae zc1):=⟨rfl,rfl,rfl,by decide +kernel,rfl,by decide +kernel,by decide +kernel⟩
theorem zkr {f:Addr} {fd:FuncData} (F:Fun K "reaches" "reaches" zc1 f fd) : FnOk P w K mg base CX0 1 f fd ["stretch","start"] (zgN K):=by
 refine F.okJL zmL (fun vs H Q E h=>?_) (fun cdv A outer s H vs Q E hr h=>?_)
 ·refine zaa ?_; intro G_; obtain ⟨p,a,b,s,rfl,_⟩:=h
  rfl
 ·intro X_ D_; refine zaa ?_; intro G_; obtain ⟨p,a,b,st,rfl,hp,k⟩:=h
  refine ⟨_,zaj (zas (e_or (ziC ( (e_v 1))) (e_or (ziC ( (e_ix zaw (e_v 0) e_i))) (zd6 (zdh o_le (e_v 1) (e_ix zaw (e_v 0) e_i)))))),?_⟩
  refine (exg _ rfl ((exg _ rfl ?_)))
  cases st with
  | none=>exact iteT k
  | some c =>
   refine iteF ?_
   refine (exg _ rfl ⟨p,_,1,exg _ rfl ⟨rfl,hp,rfl,exg _ rfl ?_⟩⟩)
   cases b with
   | none=>exact iteT k
   | some b =>
    refine iteF ?_
    exact (exg _ rfl ((exg _ rfl ⟨p,_,1,exg _ rfl ⟨rfl,hp,rfl,_,exg _ rfl ⟨rfl,k⟩⟩⟩)))
def zgo:Sp:=fun vs H Q _=>∃ (a b:Option Int),vs = [vO a,vO b] ∧ Q (vO (zcX a b)) H
theorem zmM:FnScope ["one","other"] ["one","other"] (zae zb6):=⟨rfl,rfl,rfl,by decide +kernel,rfl,by decide +kernel,by decide +kernel⟩
theorem zkV {f:Addr} {fd:FuncData} (F:Fun K "later_end" "later_end" zb6 f fd) (mx:mg "max" = none) : FnOk P w K mg base CX0 1 f fd ["one","other"] zgo:=by
 refine F.okJL zmM (fun vs H Q E h=>?_) (fun cdv A outer s H vs Q E hr h=>?_)
 ·refine zaa ?_; intro G_; obtain ⟨a,b,rfl,_⟩:=h
  rfl
 ·intro X_ D_; refine zaa ?_; intro G_; obtain ⟨a,b,rfl,k⟩:=h
  refine ⟨_,zac (s_if (JW.jt (w_or (zlW ( (e_v 0))) (zkG (zlW ( (e_v 1)))))) (zaj (zas e_n)) zaW)
   (zaj (zas (e_cb zoo mx PyProof.Rows.boot_max (ac (e_v 0) (a1 (e_v 1)))))),?_⟩
  with_reducible refine zah ?_; intro E_ U_
  refine (exg _ rfl ((exg _ rfl ?_)))
  cases a with
  | none=>exact iteT (iteT (by cases b <;> exact k))
  | some a =>
   refine iteF ?_
   refine (exg _ rfl ((exg _ rfl ?_)))
   cases b with
   | none=>exact iteT k
   | some b =>
    refine iteF ?_
    refine (exg _ rfl ((exg _ rfl ⟨a,b,rfl,?_⟩)))
    have e:(if b > a then b else a) = max a b:=by split <;> lia
    rw [e]
    exact k
end
def kfH (H:Hp) : V → List Int
 | .ref t=>(match H t with
  | some (.tup (.int a :: _))=>[1,a]
  | _=>[0,0])
 | _=>[0,0]
theorem zdI {H:Hp} {v:V} {s:Stt} (h:StAt H v s) : kfH H v = keyO s.1:=by
 obtain ⟨t,rfl,h2⟩:=h
 obtain ⟨a,b⟩:=s
 cases a <;> simp only [kfH,h2,vO,keyO]
theorem zob (H:Hp) (v:V) : kfH H v ≠ []:=by
 unfold kfH
 split
 ·split <;> simp
 ·simp
theorem zjE {a b:Option Int} (h:lexI (keyO b) (keyO a) = false) : leO a b:=by
 cases a with
 | none=>trivial
 | some x =>
  cases b with
  | none=>simp [keyO,lexI] at h
  | some y=>simp [keyO,lexI] at h; show x ≤ y; lia
theorem zd8 {H:Hp} : ∀ {ys:List V} {ts:List Stt},StsAt H ys ts → zaV (kfH H) ys → ts.Pairwise fun s q=>leO s.1 q.1
 | _,_,.nil,_=>.nil
 | _, _, .cons r t, h => by
  obtain ⟨h1,h2⟩:=List.pairwise_cons.mp h
  refine List.pairwise_cons.mpr ⟨fun q hq=>?_,zd8 t h2⟩
  have go:∀ {ys:List V} {ts:List Stt},StsAt H ys ts → q ∈ ts → ∃ y ∈ ys,StAt H y q:=by
   intro ys ts p
   induction p with
   | nil=>intro z; cases z
   | cons r _ ih =>
    intro z
    rcases List.mem_cons.mp z with e | z
    ·subst e; exact ⟨_,List.mem_cons_self,r⟩
    ·refine zaa ?_; intro G_; obtain ⟨y,hy,k⟩:=ih z
     exact ⟨y,List.mem_cons_of_mem _ hy,k⟩
  refine zaa ?_; intro G_; obtain ⟨y,hy,k⟩:=go t hq
  have:=h1 y hy
  rw [zdI r,zdI k] at this
  exact zjE this
theorem zkf {α:Type} {l:List α} {i:Nat} {x q:α} (h:l[i]? = some x) (hq:q ∈ l.drop (i + 1)) : q ∈ l.drop i:=by
 obtain ⟨hi,e⟩:=List.getElem?_eq_some_iff.mp h
 rw [List.drop_eq_getElem_cons hi]
 exact List.mem_cons_of_mem _ hq
theorem zjL {l:List Stt} (h:l.Pairwise fun s q=>leO s.1 q.1) {i:Nat} {x:Stt} (hx:l[i]? = some x) : ∀ q ∈ l.drop (i + 1),leO x.1 q.1:=by
 obtain ⟨hi,e⟩:=List.getElem?_eq_some_iff.mp hx
 have h2:(l.drop i).Pairwise fun s q=>leO s.1 q.1:=h.sublist (List.drop_sublist _ _)
 rw [List.drop_eq_getElem_cons hi,e] at h2
 exact (List.pairwise_cons.mp h2).1
section
variable {P:Program} {w:World} {K:PySem.W.Frag} {mg:Str → Option Value} {base:Heap}
def zdt:Sp:=fun vs H Q _=>∃ (l:Addr) (ss:List Stt),vs = [.ref l] ∧ SpanAt H l ss ∧ (∀ s ∈ ss,okS s) ∧ ss.length < 64 ∧
 ∀ (r:Addr) (H':Hp) (zs:List Stt),Same H H' → H r = none → SpanAt H' r zs → Can zs → zs.length ≤ ss.length → (∀ m,zag m zs = zag m ss) → Q (.ref r) H'
theorem zdz:FnScope ["stretches","span","start","end"] ["stretches"] (zae zed):=⟨rfl,rfl,rfl,by decide +kernel,rfl,by decide +kernel,by decide +kernel⟩
structure TidInv (H:Hp) (l sp D:Addr) (ys:List V) (ts:List Stt) (i:Nat) (σ:St) (H2:Hp) : Prop where
 ex:∃ (o1 o2:Option V) (zs:List V) (acc:List Stt),σ = [some (.ref l),some (.ref sp),o1,o2] ∧ Same H H2 ∧ H2 D = some (.lst ys) ∧ StsAt H2 ys ts ∧ H2 sp = some (.lst zs) ∧ StsAt H2 zs acc ∧
  Tidy acc (ts.take i) ∧ (∀ init p,acc = init ++ [p] → ∀ q ∈ ts.drop i,leO p.1 q.1) ∧ acc.length ≤ i ∧ (acc = [] → i = 0)
theorem ziT {f:Addr} {fd:FuncData} (F:Fun K "tidied" "tidied" zed f fd) (ms:mg "sorted" = none) (FO:FnP P w K mg base 1 "start_order" ["stretch"] (zgJ K))
  (FR:FnP P w K mg base 1 "reaches" ["stretch","start"] (zgN K)) (FL:FnP P w K mg base 1 "later_end" ["one","other"] zgo) : FnOk P w K mg base CX0 4 f fd ["stretches"] zdt:=by
 refine F.okJL zdz (fun vs H Q E h=>?_) (fun cdv A outer s H vs Q E hr h=>?_)
 ·refine zaa ?_; intro G_; obtain ⟨l,ss,rfl,_⟩:=h
  rfl
 ·intro X_ D_; refine zaa ?_; intro G_; obtain ⟨l,ss,rfl,⟨xs,hl,hs⟩,ok,h64,k⟩:=h
  refine ⟨_,zac (zam 1 zdz.nd (zbT a0))
   (zac (zc3 (zbe (zmC FO hr ms (a1 (e_v 0)))) (zfA (zaO (g_n 2 zdz.nd) (zaO (g_n 3 zdz.nd) zc9)))
    (zaj (s_if (JW.jt (w_and (zm1 (e_v 1)) (zcW (zcy (e_fn FR hr (ac (e_ix zaR (e_v 1) (e_un zhL e_i)) (a1 (e_v 2))))))))
     (zaj (zi7 (za5 (ac (e_ix zaw (e_ix zaR (e_v 1) (e_un zhL e_i)) e_i)
      (ac (e_fn FL hr (ac (e_ix zaw (e_ix zaR (e_v 1) (e_un zhL e_i)) e_i) (a1 (e_v 3)))) a0))) (zkz (e_v 1) (e_un zhL e_i) zhb)))
     (zaj (zd4 (e_v 1) (za5 (ac (e_v 2) (a1 (e_v 3)))))))))
   (zaj (zas (e_v 1)))),?_⟩
  with_reducible refine zah ?_; intro E_ U_
  refine ⟨Nat.zero_le _,fun sp hsp=>?_⟩
  have s0:Same H (upd H sp (.lst [])):=(Same.refl H).upd hsp
  have hlen:xs.length = ss.length:=Paired.length hs
  with_reducible refine zai ?_; intro E_ U_ S_
  refine (exg _ rfl ⟨l,xs,kfH (upd H sp (.lst [])),rfl,SqL.of (s0 _ _ hl),by lia,fun x _=>zob _ x,fun H2 y sm hy=>?_,fun D H' ys sm hD hD' hp hso=>?_⟩)
  ·obtain ⟨st,_,sy⟩:=zc6 (hs.same s0) hy
   rw [zdI sy]
   refine zaa ?_; intro G_; obtain ⟨t,rfl,ht⟩:=sy
   exact ⟨t,st.1,st.2,rfl,SqT.of (sm _ _ ht),fun t' ht'=>⟨t',rfl,zab,(Same.refl _).upd ht'⟩⟩
  have s1:Same H H':=s0.trans sm
  refine zaa ?_; intro G_; obtain ⟨ts,pt,st⟩:=zgy hp (hs.same s1)
  have rise:ts.Pairwise fun s q=>leO s.1 q.1:=by
   refine zd8 st ?_
   refine hso.imp_of_mem fun {a b} ha hb hab=>?_
   obtain ⟨u,_,ua⟩:=zc6 (hs.same s0) (hp.mem_iff.mp ha)
   obtain ⟨v,_,vb⟩:=zc6 (hs.same s0) (hp.mem_iff.mp hb)
   rw [zdI ua,zdI vb] at hab
   rw [zdI (ua.same sm),zdI (vb.same sm)]
   exact hab
  have oks:∀ s ∈ ts,okS s:=fun s hs'=>ok s (pt.mem_iff.mp hs')
  have hH'sp:H' sp = some (.lst []):=sm _ _ zab
  have nD:H D = none:=s0.free hD
  have nDsp:D ≠ sp:=fun e=>by rw [e,zab] at hD; cases hD
  refine ⟨D,rfl,⟨_,SqL.of hD'⟩,za1 (K:=K) (a:=D) (xs:=ys) (TidInv H l sp D ys ts) ⟨none,none,[],[],rfl,s1,hD',st,hH'sp,.nil,zhP,fun init p e=>absurd e (by simp),Nat.le_refl _,fun _=>rfl⟩
   (fun i σ H2 _ t=>let ⟨_,_,_,_,_,_,h,_⟩:=t.ex; SqL.of h) ?_ ?_⟩
  ·intro J_ E_; intro i x σ H2 hx h_
   refine zaa ?_; intro G_; obtain ⟨o1,o2,zs,acc,rfl,sm2,hD2,st2,hsp2,sz,T,hle,hal,hnil⟩:=h_
   refine zaa ?_; intro G_; obtain ⟨q,hq,t,rfl,ht⟩:=zaH st2 hx
   have hqm:q ∈ ts:=List.mem_of_getElem? hq
   have lzs:zs.length = acc.length:=Paired.length sz
   have hi:i < ys.length:=(List.getElem?_eq_some_iff.mp hx).1
   have lys:ys.length < 64:=by rw [hp.length_eq]; lia
   have lrest:∀ z ∈ ts.drop (i + 1),leO q.1 z.1:=zjL rise hq
   refine ⟨t,exg _ rfl ⟨SqT.of ht,rfl,_,exg _ rfl ⟨_,exg _ rfl ⟨rfl,?_⟩⟩⟩⟩
   have app:∀ (acc':List Stt),Tidy (acc ++ [q]) (ts.take (i + 1)) → zf1 (tBM K "list" zcq (tVar 1) (zax (tTup (zax (tVar 2) (zax (tVar 3) tNil))) tNil)) { nx:=TidInv H l sp D ys ts (i + 1),rt:=Q,bk:=fun σ' H'=>tRet (tVar 1) { nx:=fun _ H'=>Q .non H',rt:=Q } σ' H',ct:=TidInv H l sp D ys ts (i + 1) }
     [some (.ref l),some (.ref sp),some (vO q.1),some (vO q.2)] H2:=fun _ T'=>by
    refine (exg _ rfl ⟨.inl ⟨rfl,_,SqL.of hsp2⟩,exg _ rfl ((exg _ rfl ⟨by show 2 ≤ sizeLine; decide,fun t' ht'=>?_⟩))⟩)
    have nt:sp ≠ t':=zaf hsp2 ht'
    have sm3:Same H2 (upd H2 t' (.tup [vO q.1,vO q.2])):=(Same.refl _).upd ht'
    refine ⟨sp,zs,exg _ rfl ⟨rfl,sm3 _ _ hsp2,zal (by lia),?_⟩⟩
    refine ⟨_,_,zs ++ [.ref t'],acc ++ [q],rfl,fun b o e=>?_,?_,?_,zab,?_,T',fun init p e z hz=>?_,by rw [List.length_append,List.length_singleton]; lia,fun e=>absurd e (by simp)⟩
    ·rw [zad (zaf e hsp)]; exact sm3 _ _ (sm2 b o e)
    ·rw [zad nDsp]; exact sm3 _ _ hD2
    ·exact (st2.same sm3).wr (za3 (sm3 _ _ hsp2))
    ·exact StsAt.wr (za3 (sm3 _ _ hsp2)) (zak (R:=StAt (upd H2 t' (.tup [vO q.1,vO q.2]))) ⟨t',rfl,zab⟩ (sz.same sm3))
    ·have e2:=(List.append_inj_right' e rfl)
     have e3:q = p:=by simpa using e2
     rw [← e3]
     exact lrest z hz
   rcases List.eq_nil_or_concat acc with rfl | ⟨init,p,rfl⟩
   ·-- nothing yet
    cases sz
    have h0:i = 0:=hnil rfl
    refine (exg _ rfl ⟨false,.inl ⟨[],SqL.of hsp2,rfl⟩,iteF (iteF (app [] ?_))⟩)
    subst h0
    rw [take_snoc hq,List.take_zero]
    exact zhA (oks q hqm)
   ·rw [List.concat_eq_append] at *
    refine zaa ?_; intro G_; obtain ⟨zi,z,rfl,sz1,tz,rfl,hz⟩:=zdc sz
    have hpq:leO p.1 q.1:=hle init p rfl q (by rw [List.drop_eq_getElem_cons (List.getElem?_eq_some_iff.mp hq).1,(List.getElem?_eq_some_iff.mp hq).2]; exact List.mem_cons_self)
    refine (exg _ rfl ⟨true,.inl ⟨_,SqL.of hsp2,by simp⟩,iteT ?_⟩)
    refine (exg _ rfl ((exg _ rfl ⟨sp,_,-1,.ref tz,rfl,rfl,SqL.of hsp2,zeQ zi _,exg _ rfl ⟨tz,p.1,p.2,q.1,rfl,SqT.of hz,exg _ rfl ?_⟩⟩)))
    cases e:zcH (p.1,p.2) q.1 with
    | false =>
     refine iteF (app [] ?_)
     rw [take_snoc hq]
     exact zjZ T hpq e (oks q hqm)
    | true =>
     refine iteT ?_
     refine (exg _ rfl ((exg _ rfl ⟨sp,_,-1,.ref tz,rfl,rfl,SqL.of hsp2,zeQ zi _,tz,_,0,exg _ rfl ⟨rfl,SqT.of hz,rfl,exg _ rfl ((exg _ rfl ⟨sp,_,-1,.ref tz,rfl,rfl,SqL.of hsp2,zeQ zi _,tz,_,1,exg _ rfl ⟨rfl,SqT.of hz,rfl,exg _ rfl ⟨p.2,q.2,rfl,?_⟩⟩⟩))⟩⟩)))
     refine ⟨by show 2 ≤ sizeLine; decide,fun t' ht'=>?_⟩
     have nt:sp ≠ t':=zaf hsp2 ht'
     have sm3:Same H2 (upd H2 t' (.tup [vO p.1,vO (zcX p.2 q.2)])):=(Same.refl _).upd ht'
     have hix:ixN (zi ++ [V.ref tz]).length (-1) = some zi.length:=by
      unfold ixN
      rw [List.length_append,List.length_singleton,if_neg (by decide),if_pos (by lia)]
      congr 1
      lia
     refine (exg _ rfl ((exg _ rfl ⟨sp,_,-1,zi.length,rfl,rfl,sm3 _ _ hsp2,hix,?_⟩)))
     have eset:(zi ++ [V.ref tz]).set zi.length (.ref t') = zi ++ [.ref t']:=by simp
     rw [eset]
     refine ⟨_,_,zi ++ [.ref t'],init ++ [(p.1,zcX p.2 q.2)],rfl,fun b o e=>?_,?_,?_,zab,?_,?_,fun init' p' e z hz'=>?_,?_,fun e=>absurd e (by simp)⟩
     ·rw [zad (zaf e hsp)]; exact sm3 _ _ (sm2 b o e)
     ·rw [zad nDsp]; exact sm3 _ _ hD2
     ·exact (st2.same sm3).wr (za3 (sm3 _ _ hsp2))
     ·exact StsAt.wr (za3 (sm3 _ _ hsp2)) (zak (R:=StAt (upd H2 t' (.tup [vO p.1,vO (zcX p.2 q.2)]))) ⟨t',rfl,zab⟩ (StsAt.same sm3 sz1))
     ·rw [take_snoc hq]
      exact zhE T hpq e (oks q hqm)
     ·have e2:=(List.append_inj_right' e rfl)
      have e3:(p.1,zcX p.2 q.2) = p':=by simpa using e2
      rw [← e3]
      exact hle init p rfl z (zkf hq hz')
     ·rw [List.length_append,List.length_singleton] at *; lia
  ·-- return span
   intro σ H2 h_
   refine zaa ?_; intro G_; obtain ⟨o1,o2,zs,acc,rfl,sm2,hD2,st2,hsp2,sz,T,hle,hal,hnil⟩:=h_
   have lt:ts.length = ys.length:=(Paired.length st2).symm
   rw [← lt,List.take_length] at T
   exact (exg _ rfl (k sp H2 acc sm2 hsp ⟨zs,hsp2,sz⟩ T.can (by have:=pt.length_eq; lia) fun m=>(T.eq m).trans (zgq pt m)))
end
section
variable {P:Program} {w:World} {K:PySem.W.Frag} {mg:Str → Option Value} {base:Heap}
def zbM (c k:Int) : Int:=if c % 2 = 1 ∧ c / 2 ^ (2000 * (k + 1)).toNat / 2 ^ (27:Int).toNat ≠ 0 then c / 2 ^ (2000 * (k + 1)).toNat * 2 + 1 else c * 14 + 2 * (k * k + k + 1)
def ziV:Sp:=fun vs H Q _=>∃ (c k:Int),vs = [.int c,.int k] ∧ 0 ≤ k ∧ k ≤ 1000 ∧ Q (.int (zbM c k)) H
theorem zde:FnScope ["_law_cell","_law_k","_law_far"] ["_law_cell","_law_k"] (zae zb5):=⟨rfl,rfl,rfl,by decide +kernel,rfl,by decide +kernel,by decide +kernel⟩
theorem zfT {f:Addr} {fd:FuncData} (F:Fun K "_law_part" "_law_part" zb5 f fd) : FnOk P w K mg base CX0 1 f fd ["_law_cell","_law_k"] ziV:=by
 refine F.okJL zde (fun vs H Q E h=>?_) (fun cdv A outer s H vs Q E hr h=>?_)
 ·refine zaa ?_; intro G_; obtain ⟨_,_,rfl,_⟩:=h
  rfl
 ·intro X_ D_; refine zaa ?_; intro G_; obtain ⟨c,j,rfl,j0,j1,k⟩:=h
  refine ⟨_,(zac (zam 2 zde.nd (e_op zkp (e_v 0) (e_op zdH e_i (e_op zbb (e_v 1) e_i))))
   (zac (s_if (JW.jt (w_and (zaZ o_eq (e_op zaK (e_v 0) e_i) e_i) (zcW (zaZ o_ne (e_op zkp (e_v 2) e_i) e_i)))) (zaj (zas (e_op zbb (e_op zdH (e_v 2) e_i) e_i))) zaW)
   (zaj (zas (e_op zbb (e_op zdH (e_v 0) e_i) (e_op zdH e_i (e_op zbb (e_op zbb (e_op zdH (e_v 1) (e_v 1)) (e_v 1)) e_i))))))),?_⟩
  with_reducible refine zah ?_; intro E_ U_
  refine (exg _ rfl ((exg _ rfl ⟨_,exg _ rfl ⟨rfl,_,exg _ rfl ⟨rfl,.inl ⟨by decide,by decide⟩,_,exg _ rfl ⟨rfl,by lia,?_⟩⟩⟩⟩)))
  have two:∀ D:Ends,D.rt = Q → ¬ (c % 2 = 1 ∧ c / 2 ^ (2000 * (j + 1)).toNat / 2 ^ (27:Int).toNat ≠ 0) → tRet (tOp (rI0 fun i j=>.int (i + j)) (tOp (rI CMul fun i j=>.int (i * j)) (tVar 0) (tC (.int 14))) (tOp (rI CMul fun i j=>.int (i * j)) (tC (.int 2)) (tOp (rI0 fun i j=>.int (i + j)) (tOp (rI0 fun i j=>.int (i + j)) (tOp (rI CMul fun i j=>.int (i * j)) (tVar 1) (tVar 1)) (tVar 1)) (tC (.int 1))))) D [some (.int c),some (.int j),some (.int (c / 2 ^ (2000 * (j + 1)).toNat))] H:=by
   intro D hD hno
   have ek:zbM c j = _:=if_neg hno
   rw [ek] at k
   refine (exg _ rfl ⟨_,exg _ rfl ⟨rfl,.inr ⟨by decide,by decide⟩,exg _ rfl ((exg _ rfl ⟨_,exg _ rfl ⟨rfl,.inl ⟨by lia,by lia⟩,exg _ rfl ⟨_,exg _ rfl ⟨rfl,_,exg _ rfl ⟨rfl,_,exg _ rfl ⟨rfl,.inl ⟨by decide,by decide⟩,_,exg _ rfl ⟨rfl,?_⟩⟩⟩⟩⟩⟩⟩))⟩⟩)
   show D.rt _ _
   rw [hD]
   exact k
  with_reducible refine zai ?_; intro E_ U_ S_
  refine (exg _ rfl ⟨_,exg _ rfl ⟨rfl,pz,rfl,exg _ rfl ?_⟩⟩)
  refine ite2 (fun h1=>?_) (fun h1=>iteF (two _ rfl fun z=>h1 (decide_eq_true (congrArg V.int z.1))))
  refine (exg _ rfl ⟨_,exg _ rfl ⟨rfl,pn,rfl,exg _ rfl ?_⟩⟩)
  refine ite2 (fun h2=>?_) (fun h2=>two _ rfl fun z=>h2 (by simpa using z.2))
  have ek:zbM c j = _:=if_pos ⟨V.int.inj (of_decide_eq_true h1),by simpa using h2⟩
  rw [ek] at k
  exact (exg _ rfl ⟨_,exg _ rfl ⟨rfl,.inr ⟨by decide,by decide⟩,_,exg _ rfl ⟨rfl,k⟩⟩⟩)
def farF (d:Int) : Int:=2 + d % (10 ^ (60:Int).toNat - 3)
def numF (d:Int) : List Int:=[farF d,-farF d,([0,farF d + 1] : List Int).getD (mixF d 60 % 2).toNat 0]
theorem zdr (d:Int) : (numF d).length = 3:=rfl
theorem zeK {ns:List Int} {i:Int} (h0:0 ≤ i) (h1:i < ns.length) : atI (ns.map V.int) i = some (.int (ns.getD i.toNat 0)):=by
 obtain ⟨j,rfl⟩ : ∃ j:Nat,i = (j:Int):=⟨i.toNat,by lia⟩
 have hl:j < ns.length:=by lia
 rw [Int.toNat_natCast]
 exact zaT (by simp [hl])
def zaM:Sp:=fun vs H Q _=>∃ (d:Int),vs = [.int d] ∧ ∀ (p:Addr) (H':Hp),Same H H' → H p = none → H' p = some (.lst ((numF d).map V.int)) → Q (.ref p) H'
theorem zb2:FnScope ["_law_drawn","_law_far"] ["_law_drawn"] (zae zbu):=⟨rfl,rfl,rfl,by decide +kernel,rfl,by decide +kernel,by decide +kernel⟩
theorem zdX {f:Addr} {fd:FuncData} (F:Fun K "_law_numbers" "_law_numbers" zbu f fd) (FM:FnP P w K mg base 1 "_law_mix" ["_law_cell","_law_j"] zdO) : FnOk P w K mg base CX0 2 f fd ["_law_drawn"] zaM:=by
 refine F.okJL zb2 (fun vs H Q E h=>?_) (fun cdv A outer s H vs Q E hr h=>?_)
 ·refine zaa ?_; intro G_; obtain ⟨_,rfl,_⟩:=h
  rfl
 ·intro X_ D_; refine zaa ?_; intro G_; obtain ⟨d,rfl,k⟩:=h
  refine ⟨_,(zac (zam 1 zb2.nd (e_op zbb e_i (e_op zaK (e_v 0) (e_op zfY (e_op zmh e_i e_i) e_i))))
   (zaj (zas (zbT (ac (e_v 1) (ac (e_un zhL (e_v 1)) (a1 (e_ix zaR (zbT (ac e_i (a1 (e_op zbb (e_v 1) e_i)))) (e_op zaK (e_fn FM hr (ac (e_v 0) (a1 e_i))) e_i))))))))),?_⟩
  with_reducible refine zah ?_; intro E_ U_
  refine (exg _ rfl ⟨_,exg _ rfl ⟨rfl,⟨by decide,by decide,by decide⟩,_,exg _ rfl ⟨rfl,_,exg _ rfl ⟨rfl,by show (0:Int) < 10 ^ (60:Int).toNat - 3; decide,_,exg _ rfl ⟨rfl,?_⟩⟩⟩⟩⟩)
  have ef:farF d = 2 + d % (10 ^ (60:Int).toNat - 3):=rfl
  dsimp only [zaL]
  rw [← ef]
  refine (exg _ rfl ((exg _ rfl ((exg _ rfl ((exg _ rfl ⟨_,exg _ rfl ⟨rfl,by show 2 ≤ sizeLine; decide,fun p1 h1=>?_⟩⟩)))))))
  have r1:0 ≤ mixF d 60 % 2:=Int.emod_nonneg _ (by decide)
  have r2:mixF d 60 % 2 < 2:=Int.emod_lt_of_pos _ (by decide)
  refine (exg _ rfl ⟨d,60,rfl,by decide,by decide,_,exg _ rfl ⟨rfl,pz,p1,_,_,exg _ rfl ⟨rfl,SqL.of zab,zeK (ns:=[0,farF d + 1]) r1 (by simpa using r2),by show 3 ≤ sizeLine; decide,fun p2 h2=>?_⟩⟩⟩)
  have s1:=(Same.refl H).upd (o:=.lst [.int 0,.int (farF d + 1)]) h1
  exact k p2 _ (s1.trans ((Same.refl _).upd h2)) (s1.free h2) zab
def zaz (d:Int) : Nat:=(1 + mixF d 61 % 5).toNat
theorem zcE (d:Int) : 1 ≤ zaz d ∧ zaz d ≤ 5:=by
 unfold zaz
 have h1:=Int.emod_nonneg (mixF d 61) (show (5:Int) ≠ 0 by decide)
 have h2:=Int.emod_lt_of_pos (mixF d 61) (show (0:Int) < 5 by decide)
 lia
def digF (n:Int) : List Int:=[n % 3,n / 3 % 3,n / 9 % 3,n % 3,n / 3 % 3]
def rowF (d n:Int) : List Int:=((digF n).take (zaz d)).map fun x=>(numF d).getD x.toNat 0
theorem zgR (d n:Int) : (rowF d n).length = zaz d:=by
 have:=zcE d
 unfold rowF digF
 rw [List.length_map,List.length_take]
 simp only [List.length_cons,List.length_nil]
 lia
def zcC:Sp:=fun vs H Q _=>∃ (d n:Int),vs = [.int d,.int n] ∧ ∀ (t:Addr) (H':Hp),Same H H' → H t = none → H' t = some (.tup ((rowF d n).map V.int)) → Q (.ref t) H'
theorem zcz:FnScope ["_law_drawn","_law_number","_law_some","_law_digits"] ["_law_drawn","_law_number"] (zae zcB):=⟨rfl,rfl,rfl,by decide +kernel,rfl,by decide +kernel,by decide +kernel⟩
theorem zgi {f:Addr} {fd:FuncData} (F:Fun K "_law_row" "_law_row" zcB f fd) (B:Blts mg) (FN:FnP P w K mg base 2 "_law_numbers" ["_law_drawn"] zaM) (FMF:FnP P w K mg base 1 "_law_mix" ["_law_cell","_law_j"] zdO) : FnOk P w K mg base CX0 3 f fd ["_law_drawn","_law_number"] zcC:=by
 refine F.okJL zcz (fun vs H Q E h=>?_) (fun cdv A outer s H vs Q E hr h=>?_)
 ·refine zaa ?_; intro G_; obtain ⟨_,_,rfl,_⟩:=h
  rfl
 ·intro X_ D_; refine zaa ?_; intro G_; obtain ⟨d,n,rfl,k⟩:=h
  have nd:(["_law_digit","_law_some"] : List Str).Nodup:=by decide +kernel
  refine ⟨_,(zac (zam 2 zcz.nd (e_fn FN hr (a1 (e_v 0))))
   (zac (zam 3 zcz.nd (zbT (ac (e_op zaK (e_v 1) e_i) (ac (e_op zaK (e_op zhl (e_v 1) e_i) e_i) (ac (e_op zaK (e_op zhl (e_v 1) e_i) e_i) (ac (e_op zaK (e_v 1) e_i) (a1 (e_op zaK (e_op zhl (e_v 1) e_i) e_i))))))))
   (zaj (zas (e_ct zmj B.tuple PyProof.Rows.boot_tuple (a1c (zcL (Nc:=["_law_digit","_law_some"]) (js:=[none,some 2]) (g:=(zaL 0)) (tt:=tYes) (te:=(tOp (rIxL K) (tVar 1) (tVar 0)))
   (zbL rfl rfl rfl rfl (fun x c h=>by (obtain ⟨rfl,rfl⟩ : x = _ ∧ c = _:=(by simpa using h)); rfl) rfl rfl rfl) (zbe (zlv (e_v 3) (e_op zbb e_i (e_op zaK (e_fn FMF hr (ac (e_v 0) (a1 e_i))) e_i))))
   (fun pins C s3 H3 fp=>⟨(g_n 0 nd),.inl ⟨rfl,rfl⟩,(e_ix zaR (e_v 1) (e_v 0))⟩)))))))),?_⟩
  with_reducible refine zah ?_; intro E_ U_
  refine (exg _ rfl ⟨d,rfl,fun ps H2 s2 hps g2=>?_⟩)
  with_reducible refine zai ?_; intro E_ U_ S_
  refine (exg _ rfl ⟨_,exg _ rfl ⟨rfl,pz,exg _ rfl ⟨_,exg _ rfl ⟨rfl,⟨by decide,by decide⟩,_,exg _ rfl ⟨rfl,pz,exg _ rfl ⟨_,exg _ rfl ⟨rfl,⟨by decide,by decide⟩,_,exg _ rfl ⟨rfl,pz,exg _ rfl ⟨_,exg _ rfl ⟨rfl,pz,exg _ rfl ⟨_,exg _ rfl ⟨rfl,⟨by decide,by decide⟩,_,exg _ rfl ⟨rfl,pz,by show 5 ≤ sizeLine; decide,fun pd hpd=>?_⟩⟩⟩⟩⟩⟩⟩⟩⟩⟩⟩⟩⟩)
  have s3:Same H2 (upd H2 pd (.lst [.int (n % 3),.int (n / 3 % 3),.int (n / 9 % 3),.int (n % 3),.int (n / 3 % 3)])):=(Same.refl H2).upd hpd
  have g3:upd H2 pd (.lst [.int (n % 3),.int (n / 3 % 3),.int (n / 9 % 3),.int (n % 3),.int (n / 3 % 3)]) pd = some (.lst (([n % 3,n / 3 % 3,n / 9 % 3,n % 3,n / 3 % 3] : List Int).map V.int)):=zab
  generalize upd H2 pd (.lst [.int (n % 3),.int (n / 3 % 3),.int (n / 9 % 3),.int (n % 3),.int (n / 3 % 3)]) = H3 at s3 g3 ⊢
  have dig:∀ x ∈ ([n % 3,n / 3 % 3,n / 9 % 3,n % 3,n / 3 % 3] : List Int),0 ≤ x ∧ x < 3:=by
   intro x hx
   simp only [List.mem_cons,List.not_mem_nil,or_false] at hx
   rcases hx with rfl | rfl | rfl | rfl | rfl <;> exact ⟨Int.emod_nonneg _ (by decide),Int.emod_lt_of_pos _ (by decide)⟩
  have dl:([n % 3,n / 3 % 3,n / 9 % 3,n % 3,n / 3 % 3] : List Int).length = 5:=rfl
  have hdg:digF n = [n % 3,n / 3 % 3,n / 9 % 3,n % 3,n / 3 % 3]:=rfl
  rw [← hdg] at g3 dig dl
  generalize hds:digF n = ds at g3 dig dl
  refine (exg _ rfl ((exg _ rfl ⟨d,61,rfl,by decide,by decide,_,exg _ rfl ⟨rfl,pz,_,exg _ rfl ⟨rfl,exg _ rfl ⟨pd,exg _ rfl ⟨SqL.of g3,fun pq hpq=>?_⟩⟩⟩⟩⟩)))
  obtain ⟨c,ec,hc,c5,cr⟩ : ∃ c:Nat,1 + mixF d 61 % 5 = (c:Int) ∧ 1 ≤ c ∧ c ≤ 5 ∧ c = zaz d:=by
   have h1:=Int.emod_nonneg (mixF d 61) (show (5:Int) ≠ 0 by decide)
   have h2:=Int.emod_lt_of_pos (mixF d 61) (show (0:Int) < 5 by decide)
   exact ⟨(1 + mixF d 61 % 5).toNat,by lia,by lia,by lia,rfl⟩
  rw [ec,zhg]
  have s4:Same H3 (upd H3 pq (.lst ((ds.take c).map V.int))):=(Same.refl H3).upd hpq
  have g4:upd H3 pq (.lst ((ds.take c).map V.int)) pq = some (.lst ((ds.take c).map V.int)):=zab
  generalize upd H3 pq (.lst ((ds.take c).map V.int)) = H4 at s4 g4 ⊢
  have ne:(ds.take c).length = zaz d:=by rw [List.length_take]; lia
  have dig':∀ x ∈ ds.take c,0 ≤ x ∧ x < 3:=fun x hx=>dig x (List.mem_of_mem_take hx)
  have l5:(ds.take c).length ≤ 5:=by rw [List.length_take]; lia
  generalize hes:ds.take c = es at g4 ne dig' l5
  have gs:=s4 _ _ (s3 _ _ g2)
  refine ⟨pq,rfl,⟨_,SqL.of g4⟩,fun D hD=>?_⟩
  refine zbg (K:=K) (a:=pq) (xs:=es.map V.int) (fun i _ σ H5=>∃ (o:Option V) (row:List Int),σ = [o,some (.ref ps)] ∧ Same H4 H5 ∧ H5 D = some (.lst (row.map V.int)) ∧ row = (es.take i).map fun x=>(numF d).getD x.toNat 0)
   ⟨none,[],rfl,(Same.refl H4).upd hD,zab,rfl⟩ (by rintro i _ σ H5 _ ⟨_,_,_,sm,_⟩; exact SqL.of (sm _ _ g4)) ?_ ?_
  ·intro J_; intro i x _ σ H5 hx h_
   refine zaa ?_; intro G_; obtain ⟨o,row,rfl,sm,h5,lr⟩:=h_
   refine zaa ?_; intro G_; obtain ⟨v,ev,rfl⟩:=zha hx
   have hi:i < es.length:=(List.getElem?_eq_some_iff.mp ev).1
   obtain ⟨b1,b2⟩:=dig' v (List.mem_of_getElem? ev)
   have eq:=zeK (ns:=numF d) b1 (by simpa [zdr] using b2)
   refine (exg _ rfl ((exg _ rfl ⟨ps,_,_,exg _ rfl ⟨rfl,SqL.of (sm _ _ gs),eq,_,h5,zal (by rw [List.length_map,lr,List.length_map,List.length_take]; lia),[],_,row ++ [(numF d).getD v.toNat 0],rfl,sm.upd hD,by rw [zab]; simp,by rw [take_snoc ev,List.map_append,lr]; rfl⟩⟩)))
  ·intro _ σ H5 h_
   refine zaa ?_; intro G_; obtain ⟨o,row,rfl,sm,h5,lr⟩:=h_
   rw [List.length_map,List.take_length,← hes,← hds,cr] at lr
   have s05:=s2.trans (s3.trans (s4.trans sm))
   subst lr
   exact ⟨D,exg _ rfl (.inl ⟨SqL.of h5,fun t ht=>k t _ (s05.trans ((Same.refl H5).upd ht)) (s05.free ht) zab⟩)⟩
end
section
variable {P:Program} {w:World} {K:PySem.W.Frag} {mg:Str → Option Value} {base:Heap}
def zbJ:Sp:=fun vs H Q _=>∃ (a b:Option Int),vs = [vO a,vO b] ∧ Q (.bl (okB (a,b))) H
theorem ze6:FnScope ["start","end"] ["start","end"] (zae zbW):=⟨rfl,rfl,rfl,by decide +kernel,rfl,by decide +kernel,by decide +kernel⟩
theorem ze1 {f:Addr} {fd:FuncData} (F:Fun K "is_stretch" "is_stretch" zbW f fd) : FnOk P w K mg base CX0 1 f fd ["start","end"] zbJ:=by
 refine F.okJL ze6 (fun vs H Q E h=>?_) (fun cdv A outer s H vs Q E hr h=>?_)
 ·refine zaa ?_; intro G_; obtain ⟨_,_,rfl,_⟩:=h
  rfl
 ·intro X_ D_; refine zaa ?_; intro G_; obtain ⟨a,b,rfl,k⟩:=h
  refine ⟨_,(zaj (zas (e_or (ziC (e_v 0)) (e_or (ziC (e_v 1)) (zd6 (zdh o_lt (e_v 0) (e_v 1))))))),?_⟩
  refine (exg _ rfl ((exg _ rfl ?_)))
  cases a with
  | none=>exact iteT k
  | some a =>
   refine iteF (exg _ rfl ((exg _ rfl ?_)))
   cases b with
   | none=>exact iteT k
   | some b=>exact iteF (exg _ rfl ((exg _ rfl ⟨_,exg _ rfl ⟨rfl,k⟩⟩)))
def zaA (CS:Addr) : Sp:=fun vs H Q E=>∃ (a b:Option Int),vs = [vO a,vO b] ∧ (okS (a,b) → Q .non H) ∧ (¬ okS (a,b) → E (.ref CS) none H)
theorem zcj:FnScope ["start","end"] ["start","end"] (zae zaS):=⟨rfl,rfl,rfl,by decide +kernel,rfl,by decide +kernel,by decide +kernel⟩
theorem zck {f CS:Addr} {fd:FuncData} (F:Fun K "refuse_no_stretch" "refuse_no_stretch" zaS f fd) (O:ErrC K mg "NoStretch" CS) (FI:FnP P w K mg base 1 "is_stretch" ["start","end"] zbJ) :
  FnOk P w K mg base (CXe P w) 2 f fd ["start","end"] (zaA CS):=by
 refine F.okXL zcj (fun vs H Q E h=>?_) (fun cdv A outer s H vs Q E hr h=>?_)
 ·refine zaa ?_; intro G_; obtain ⟨_,_,rfl,_⟩:=h
  rfl
 ·intro X_ D_; refine zaa ?_; intro G_; obtain ⟨a,b,rfl,k1,k2⟩:=h
  refine ⟨_,(zaj (s_if (zh0 (zcy (e_fn FI hr (ac (e_v 0) (a1 (e_v 1)))))) (zaj (zi4 zf9 O e_s)) zaW)),?_⟩
  refine (exg _ rfl ((exg _ rfl ⟨a,b,rfl,exg _ rfl ?_⟩)))
  cases e:okB (a,b) with
  | true=>exact iteF (k1 (zi2.mp e))
  | false=>exact iteT ⟨rfl,k2 fun z=>by rw [zi2.mpr z] at e; cases e⟩
def zaF (CW:Addr) : Sp:=fun vs H Q E=>∃ (a:Addr) (xs:List V) (fs:List Fact),vs = [.ref a] ∧ H a = some (.lst xs) ∧ Paired (FactAt H) xs fs ∧ fs.length ≤ 100000 ∧
 ((∀ f ∈ fs,f.1.length = zbZ fs) → ∀ H',Same H H' → Q .non H') ∧ ((∃ f ∈ fs,f.1.length ≠ zbZ fs) → ∀ H',Same H H' → E (.ref CW) none H')
theorem za0:FnScope ["facts","place","fact"] ["facts"] (zae zaD):=⟨rfl,rfl,rfl,by decide +kernel,rfl,by decide +kernel,by decide +kernel⟩
theorem zbQ {f CW:Addr} {fd:FuncData} (F:Fun K "refuse_unlike_widths" "refuse_unlike_widths" zaD f fd) (B:Blts mg) (O:ErrC K mg "NoWidth" CW) :
  FnOk P w K mg base (CXe P w) 1 f fd ["facts"] (zaF CW):=by
 refine F.okXL za0 (fun vs H Q E h=>?_) (fun cdv A outer s H vs Q E hr h=>?_)
 ·refine zaa ?_; intro G_; obtain ⟨_,_,_,rfl,_⟩:=h
  rfl
 ·intro X_ D_; refine zaa ?_; intro G_; obtain ⟨a,xs,fs,rfl,ha,hp,hz,k1,k2⟩:=h
  have nd:=za0.nd
  refine ⟨_,(zaj (zc3 (zmZ B.enumerate (a1 (e_v 0))) (zfA (zaO (g_n 1 nd) (zaO (g_n 2 nd) zc9)))
    (zaj (s_if (zaZ o_ne (e_cb zdp B.len PySem.boot_len (a1 (e_ix zaw (e_v 2) e_i))) (e_cb zdp B.len PySem.boot_len (a1 (e_ix zaw (e_ix zaR (e_v 0) e_i) e_i))))
     (zaj (zi4 zf9 O (zox (ziF e_s (ziF (zoO (e_v 1)) (ziF e_s zoC)))))) zaW)) zgZ)),?_⟩
  have lx:xs.length = fs.length:=Paired.length hp
  refine ⟨_,rfl,a,rfl,⟨xs,SqL.of ha⟩,zh6 (K:=K) (a:=a) (xs:=xs) (fun i σ H'=>∃ o1 o2,σ = [some (.ref a),o1,o2] ∧ Same H H' ∧ ∀ f ∈ fs.take i,f.1.length = zbZ fs)
   ⟨none,none,rfl,Same.refl H,fun f h=>by simp at h⟩ (by rintro i σ H' _ ⟨_,_,_,sm,_⟩; exact SqL.of (sm _ _ ha)) ?_ ?_⟩
  ·intro J_ E_; rintro i x T σ H' hx ⟨o1,o2,rfl,sm,good⟩ hT
   obtain ⟨f,hf,t,p,rfl,ht,hpp⟩:=zaH hp hx
   have s1:Same H' (upd H' T (.tup [.int i,.ref t])):=(Same.refl H').upd hT
   have u1:upd H' T (.tup [.int i,.ref t]) T = some (.tup [.int i,.ref t]):=zab
   generalize upd H' T (.tup [.int i,.ref t]) = H1 at s1 u1 ⊢
   have s01:=sm.trans s1
   have hi:i < fs.length:=(List.getElem?_eq_some_iff.mp hf).1
   obtain ⟨g,fs',rfl⟩ : ∃ g fs',fs = g :: fs':=by cases fs with | nil=>simp at hi | cons g fs'=>exact ⟨g,fs',rfl⟩
   obtain ⟨y,ys,rfl⟩ : ∃ y ys,xs = y :: ys:=by cases xs with | nil=>simp at lx | cons y ys=>exact ⟨y,ys,rfl⟩
   obtain ⟨t0,p0,rfl,ht0,hp0⟩ : FactAt H y g:=by cases hp with | cons r _=>exact r
   refine ⟨T,_,rfl,SqT.of u1,rfl,_,_,rfl,_,_,rfl,rfl,?_⟩
   refine (exg _ rfl ⟨t,_,0,exg _ rfl ⟨rfl,SqT.of (s01 _ _ ht),rfl,p,exg _ rfl ⟨.inr (SqT.of (s01 _ _ hpp)),exg _ rfl ⟨a,_,0,exg _ rfl ⟨rfl,SqL.of (s01 _ _ ha),(show atI _ ((0:Nat) : Int) = _ from zaT rfl),t0,_,0,exg _ rfl ⟨rfl,SqT.of (s01 _ _ ht0),rfl,p0,exg _ rfl ⟨.inr (SqT.of (s01 _ _ hp0)),rfl,exg _ rfl ?_⟩⟩⟩⟩⟩⟩⟩)
   refine ite2 (fun hc=>?_) (fun hc=>?_)
   ·have ne:f.1.length ≠ zbZ (g :: fs'):=fun z=>by
     have z':f.1.length = g.1.length:=z
     simp [z'] at hc
    refine (exg _ rfl ⟨by decide +kernel,exg _ rfl ((exg _ rfl ⟨?_,exg _ rfl ⟨?_,exg _ rfl ⟨by decide +kernel,rfl,k2 ⟨f,List.mem_of_getElem? hf,ne⟩ _ s01⟩⟩⟩))⟩)
    ·exact zfp (by lia)
    ·exact zlZ (zfp (by lia))
   ·have eq:f.1.length = zbZ (g :: fs'):=by
     have:f.1.length = g.1.length:=by
      by_cases z:f.1.length = g.1.length
      ·exact z
      ·exfalso; exact hc (by simp; lia)
     exact this
    refine ⟨_,exg _ rfl ⟨s01,fun f' h'=>?_⟩⟩
    rw [take_snoc hf] at h'
    rcases List.mem_append.mp h' with z | z
    ·exact good f' z
    ·rw [List.mem_singleton.mp z]; exact eq
  ·intro σ H' h_
   refine zaa ?_; intro G_; obtain ⟨o1,o2,rfl,sm,good⟩:=h_
   rw [lx,List.take_length] at good
   exact k1 good _ sm
end
section
variable {P:Program} {w:World} {K:PySem.W.Frag} {mg:Str → Option Value} {base:Heap}
def zcs (CS CW : Addr) : Sp := fun vs H Q E => ∃ (a : Addr) (xs : List V) (fs : List Fact), vs = [.ref a] ∧ H a = some (.lst xs) ∧ Paired (FactAt H) xs fs ∧ fs.length ≤ 5000 ∧ (∀ f ∈ fs, f.1 ≠ []) ∧
  ((∀ f ∈ fs,okS f.2) → (∀ f ∈ fs,f.1.length = zbZ fs) → (∃ rs:List (List Int),rs.length < 64 ∧ ∀ f ∈ fs,f.1 ∈ rs) ∧ (∀ r,(told fs r).length < 64) ∧
    ∀ (D:Addr) (H':Hp) (es:List (List Int × List Stt)),Same H H' → H D = none → SheetN H H' D es → ShOf fs es → Q (.ref D) H') ∧
  ((∃ f ∈ fs,¬ okS f.2) → ∀ H',Same H H' → E (.ref CS) none H') ∧
  ((∀ f ∈ fs,okS f.2) → (∃ f ∈ fs,f.1.length ≠ zbZ fs) → ∀ H',Same H H' → E (.ref CW) none H')
theorem zd3:FnScope ["facts","fact","told","row","start","end"] ["facts"] (zae zcp):=⟨rfl,rfl,rfl,by decide +kernel,rfl,by decide +kernel,by decide +kernel⟩
theorem zgc {f CS CW:Addr} {fd:FuncData} (F:Fun K "sheet_of" "sheet_of" zcp f fd) (B:Blts mg) (FR:FnX P w K mg base 2 "refuse_no_stretch" ["start","end"] (zaA CS))
  (FW:FnX P w K mg base 1 "refuse_unlike_widths" ["facts"] (zaF CW)) (FT:FnP P w K mg base 4 "tidied" ["stretches"] zdt) : FnOk P w K mg base (CXe P w) 5 f fd ["facts"] (zcs CS CW):=by
 refine F.okXL zd3 (fun vs H Q E h=>?_) (fun cdv A outer s H vs Q E hr h=>?_)
 ·refine zaa ?_; intro G_; obtain ⟨_,_,_,rfl,_⟩:=h
  rfl
 ·intro X_ D_; refine zaa ?_; intro G_; obtain ⟨a,xs,fs,rfl,ha,hp,hz,ne,k1,k2,k3⟩:=h
  have nd:=zd3.nd
  have nd2:(["row","told"] : List Str).Nodup:=by decide +kernel
  refine ⟨_,(zac (zc3 (zbe (e_v 0)) (g_n 1 nd)
    (zaj (zie ((x_fn FR hr (ac (e_ix zaw (e_v 1) e_i) (a1 (e_ix zaw (e_v 1) e_i)))).je zcJ))) zgZ)
   (zac (zie ((x_fn FW hr (a1 (e_v 0))).je zcJ))
   (zac (zjc 2 nd zgr)
   (zac (zc3 (zbe (e_v 0)) (zfA (zaO (g_n 3 nd) (zaO (g_n 4 nd) (zaO (g_n 5 nd) zc9))))
    (zaj (zd4 (zdv hr (e_v 2) (ac (e_v 3) (a1 (zbT a0)))) (za5 (ac (e_v 4) (a1 (e_v 5)))))) zgZ)
   (zaj (zas (zcL (Nc:=["row","told"]) (js:=[none,some 2]) (g:=(zaL 0)) (tt:=tYes) (te:=(tTup (zax (tVar 0) (zax (zek zdt [] E0 (zax (zhV (tVar 1) (tVar 0)) tNil)) tNil))))
   (zbL rfl rfl rfl rfl (fun x c h=>by (obtain ⟨rfl,rfl⟩ : x = _ ∧ c = _:=(by simpa using h)); rfl) rfl rfl rfl) (zbe (e_cb zjT B.sorted PyProof.Rows.boot_sorted (a1 (e_v 2))))
   (fun pins C s3 H3 fp=>⟨(g_n 0 nd2),.inl ⟨rfl,rfl⟩,(za5 (ac (e_v 0) (a1 (e_fn FT hr (a1 (zdP hr (e_v 1) (e_v 0)))))))⟩)))))))),?_⟩
  have lx:xs.length = fs.length:=Paired.length hp
  with_reducible refine zah ?_; intro E_ U_
  refine ⟨_,rfl,a,rfl,⟨xs,SqL.of ha⟩,za1 (K:=K) (a:=a) (xs:=xs) (fun i σ H'=>∃ o1,σ = [some (.ref a),o1,none,none,none,none] ∧ Same H H' ∧ ∀ f ∈ fs.take i,okS f.2)
   ⟨none,rfl,Same.refl H,fun f h=>by simp at h⟩ (by rintro i σ H' _ ⟨_,_,sm,_⟩; exact SqL.of (sm _ _ ha)) ?_ ?_⟩
  ·intro J_ E_; intro i x σ H' hx h_
   refine zaa ?_; intro G_; obtain ⟨o1,rfl,sm,good⟩:=h_
   refine zaa ?_; intro G_; obtain ⟨f,hf,t,p,rfl,ht,hpp⟩:=zaH hp hx
   refine (exg _ rfl ⟨t,_,1,exg _ rfl ⟨rfl,SqT.of (sm _ _ ht),rfl,exg _ rfl ⟨t,_,2,exg _ rfl ⟨rfl,SqT.of (sm _ _ ht),rfl,f.2.1,f.2.2,rfl,fun g=>(exg _ rfl ⟨sm,fun f' h'=>?_⟩),fun b=>k2 ⟨f,List.mem_of_getElem? hf,b⟩ _ sm⟩⟩⟩⟩)
   rw [take_snoc hf] at h'
   rcases List.mem_append.mp h' with z | z
   ·exact good f' z
   ·rw [List.mem_singleton.mp z]; exact g
  intro σ H1 h_
  refine zaa ?_; intro G_; obtain ⟨o1,rfl,s1,oks⟩:=h_
  rw [lx,List.take_length] at oks
  with_reducible refine zah ?_; intro E_ U_
  refine (exg _ rfl ⟨a,xs,fs,rfl,s1 _ _ ha,zhz s1 hp,by lia,fun same H2 s2=>?_,fun ex H2 s2=>k3 oks ex _ (s1.trans s2)⟩)
  refine zaa ?_; intro G_; obtain ⟨⟨rs,rs64,rsm⟩,few,k⟩:=k1 oks same
  have s02:=s1.trans s2
  refine fun pd hpd=>?_
  have td0:TdI H2 (upd H2 pd (.dT [])) pd [] [] []:=⟨zab,.nil,(fun q h=>nomatch h),(fun q h=>nomatch h),.nil,(fun q h=>nomatch h),(Same.refl H2).upd hpd,hpd,(fun q h=>nomatch h),fun r=>by simp⟩
  have rows_le:∀ {fs':List Fact} {td:Td},(∀ f ∈ fs',f ∈ fs) → (td.map (·.1)).Nodup → (∀ r,r ∈ td.map (·.1) ↔ r ∈ fs'.map (·.1) ∨ r ∈ ([] : List (List Int))) → td.length < 64:=by
   intro fs' td sub nd' rows
   have:=zaP nd' (m:=rs) fun r hr=>by
    rcases (rows r).mp hr with z | z
    ·refine zaa ?_; intro G_; obtain ⟨f,hf,rfl⟩:=List.mem_map.mp z
     exact rsm f (sub f hf)
    ·cases z
   rw [List.length_map] at this
   lia
  with_reducible refine zai ?_; intro E_ U_ S_
  refine ⟨_,rfl,a,rfl,⟨xs,SqL.of (td0.same _ _ (s02 _ _ ha))⟩,za1 (K:=K) (a:=a) (xs:=xs) (fun i σ H'=>∃ (td:Td) (o1 o3 o4 o5:Option V),σ = [some (.ref a),o1,some (.ref pd),o3,o4,o5] ∧ TdI H2 H' pd (fs.take i) td [])
   ⟨[],_,none,none,none,rfl,td0⟩ (by rintro i σ H' _ ⟨_,_,_,_,_,_,h⟩; exact SqL.of (h.same _ _ (s02 _ _ ha))) ?_ ?_⟩
  ·intro J_ E_; intro i x σ H' hx h_
   refine zaa ?_; intro G_; obtain ⟨td,o1,o3,o4,o5,rfl,I⟩:=h_
   refine zaa ?_; intro G_; obtain ⟨f,hf,t,p,rfl,ht,hpp⟩:=zaH hp hx
   have s':=s02.trans I.same
   have hfm:f ∈ fs:=List.mem_of_getElem? hf
   refine ⟨t,exg _ rfl ⟨SqT.of (s' _ _ ht),rfl,_,exg _ rfl ⟨_,exg _ rfl ⟨_,exg _ rfl ⟨rfl,?_⟩⟩⟩⟩⟩
   refine (exg _ rfl ⟨.inr (.inr (.inl ⟨rfl,.inr ⟨_,I.at'⟩⟩)),exg _ rfl ⟨Nat.zero_le _,fun D hD=>?_⟩⟩)
   have s3:Same H' (upd H' D (.lst [])):=(Same.refl H').upd hD
   have u3:upd H' D (.lst []) D = some (.lst []):=zab
   generalize upd H' D (.lst []) = H3 at s3 u3 ⊢
   have I3:=I.sm s3
   have lk:(zcw td).length < sizeLine:=by
    unfold zcw; rw [List.length_map]
    have:=rows_le (fs':=fs.take i) (fun f hf=>List.mem_of_mem_take hf) I.nd I.rows
    exact zal (by lia)
   have htup:H3 p = some (.tup ((f.1.map Sum.inl:List Key).map kV)):=by rw [zcA]; exact s3 _ _ (s' _ _ hpp)
   have app:∀ (H5:Hp) (td5:Td) (ex:List (List Int)) (q:List Int × Addr × List Stt),TdI H2 H5 pd (fs.take i) td5 ex → q ∈ td5 → q.1 = f.1 → (∀ r ∈ ex,r = q.1) →
     (tyV K "list" (.ref q.2.1) H5 ∧ zax (tTup (zax (tVar 4) (zax (tVar 5) tNil))) tNil [some (.ref a),o1,some (.ref pd),some (.ref p),some (vO f.2.1),some (vO f.2.2)] H5 fun xs H6=>zcq (.ref q.2.1) xs H6 fun _ H7 =>
      ∃ (td:Td) (o1' o3 o4 o5:Option V),[some (V.ref a),o1,some (.ref pd),some (.ref p),some (vO f.2.1),some (vO f.2.2)] = [some (.ref a),o1',some (.ref pd),o3,o4,o5] ∧ TdI H2 H7 pd (fs.take (i + 1)) td []):=by
    intro H5 td5 ex q I5 hq eq hex
    refine zaa ?_; intro G_; obtain ⟨ys,hy,sy⟩:=I5.lst q hq
    refine ⟨.inl ⟨rfl,_,SqL.of hy⟩,exg _ rfl ((exg _ rfl ⟨by show 2 ≤ sizeLine; decide,fun u hu=>?_⟩))⟩
    have s6:Same H5 (upd H5 u (.tup [vO f.2.1,vO f.2.2])):=(Same.refl H5).upd hu
    have u6:upd H5 u (.tup [vO f.2.1,vO f.2.2]) u = some (.tup [vO f.2.1,vO f.2.2]):=zab
    generalize upd H5 u (.tup [vO f.2.1,vO f.2.2]) = H6 at s6 u6 ⊢
    have ly:ys.length ≤ 5000:=by
     have h1:=Paired.length sy
     have h2:=congrArg List.length (I5.grp q hq)
     have h3:(told (fs.take i) q.1).length ≤ (fs.take i).length:=by unfold told; rw [List.length_map]; exact List.length_filter_le _ _
     rw [List.length_take] at h3
     lia
    have I7:=(I5.sm s6).app (st:=f.2) hq hex (s6 _ _ hy) (sy.same s6) u6
    rw [eq,← take_snoc (x:=f) hf] at I7
    exact ⟨q.2.1,ys,exg _ rfl ⟨rfl,s6 _ _ hy,Nat.lt_of_le_of_lt ly (by decide),_,_,_,_,exg _ rfl I7⟩⟩
   refine ⟨pd,p,.ref D,zcw td,f.1.map Sum.inl,rfl,rfl,I3.at',htup,lk,?_⟩
   by_cases hr':f.1 ∈ td.map (·.1)
   ·obtain ⟨q,hq,eq⟩:=List.mem_map.mp hr'
    have hv:=zio I3.nd hq
    rw [eq] at hv
    rw [hv]
    exact app H3 td [] q I3 hq eq fun r h=>nomatch h
   ·rw [zgm hr']
    have fD:H2 D = none:=I.same.free hD
    have nD:D ∉ td.map (·.2.1):=fun z=>by
     refine zaa ?_; intro G_; obtain ⟨q,hq,e⟩:=List.mem_map.mp z
     refine zaa ?_; intro G_; obtain ⟨_,e',_⟩:=I.lst q hq
     rw [e,hD] at e'
     cases e'
    exact app _ _ [f.1] (f.1,D,[]) (I3.add hr' (ne f hfm) u3 fD nD) (List.mem_append_right _ (by simp)) rfl fun r h=>by simpa using h
  intro σ H3 h_
  refine zaa ?_; intro G_; obtain ⟨td,o1,o3,o4,o5,rfl,I⟩:=h_
  rw [lx,List.take_length] at I
  have l64:td.length < 64:=rows_le (fs':=fs) (fun f hf=>hf) I.nd I.rows
  have lk:(zcw td).length < 64:=by unfold zcw; rw [List.length_map]; exact l64
  refine (exg _ rfl ⟨pd,pd,_,exg _ rfl ⟨I.known,.inl rfl,lk,fun D2 ys2 ks' hD2 p2 pm2 pw2=>?_⟩⟩)
  have t3:Same H3 (upd H3 D2 (.lst ys2)):=(Same.refl H3).upd hD2
  have u3:upd H3 D2 (.lst ys2) D2 = some (.lst ys2):=zab
  have p3:=zf2 t3 p2
  generalize upd H3 D2 (.lst ys2) = Hb at t3 u3 p3 ⊢
  have Ib:=I.sm t3
  have ly2:ys2.length = ks'.length:=Paired.length p3
  have lks:ks'.length < 64:=by rw [pm2.length_eq,List.length_map]; exact l64
  have s0b:=s02.trans Ib.same
  refine ⟨D2,rfl,⟨_,SqL.of u3⟩,fun D3 hD3=>?_⟩
  have f3:H D3 = none:=s0b.free hD3
  refine zbg (K:=K) (a:=D2) (xs:=ys2) (fun i _ σ H4=>∃ (o:Option V) (zs:List V) (es:List (List Int × List Stt)),σ = [o,some (.ref pd)] ∧ Same Hb H4 ∧ H4 D3 = some (.lst zs) ∧ Paired (EntN H H4 D3) zs es ∧ es.map (·.1) = ks'.take i ∧ ∀ e ∈ es,Can e.2 ∧ e.2.length ≤ 63 ∧ ∀ m,zag m e.2 = zag m (told fs e.1))
   ⟨none,[],[],rfl,(Same.refl Hb).upd hD3,zab,.nil,rfl,fun e h=>nomatch h⟩ (by rintro i _ σ H4 _ ⟨_,_,_,_,sm,_⟩; exact SqL.of (sm _ _ u3)) ?_ ?_
  ·intro J_; intro i x _ σ H4 hx h_
   refine zaa ?_; intro G_; obtain ⟨o,zs,es,rfl,sm,h4,pr,em,good⟩:=h_
   refine zaa ?_; intro G_; obtain ⟨row,er,t,rfl,ht⟩:=zaH p3 hx
   have hrow:row ∈ td.map (·.1):=pm2.mem_iff.mp (List.mem_of_getElem? er)
   refine zaa ?_; intro G_; obtain ⟨q,hq,rfl⟩:=List.mem_map.mp hrow
   have I4:=Ib.sm sm
   have hv:=zio I4.nd hq
   have ht4:H4 t = some (.tup ((q.1.map Sum.inl:List Key).map kV)):=by rw [zcA]; exact sm _ _ ht
   have eg:=I.grp q hq
   refine (exg _ rfl ((exg _ rfl ((exg _ rfl ⟨pd,exg _ rfl ⟨.inr ⟨_,_,t,.inl I4.at',rfl,ht4,hv.symm⟩,q.2.1,q.2.2,rfl,I4.lst q hq,fun st hst=>?_,by rw [eg]; exact few _,fun r H5 ss s5 hr5 hspan can lss eqs=>⟨by show 2 ≤ sizeLine; decide,fun u hu=>?_⟩⟩⟩)))))
   ·rw [eg] at hst
    exact oks _ (zcF.mp hst)
   have s6:Same H5 (upd H5 u (.tup [.ref t,.ref r])):=(Same.refl H5).upd hu
   have u6:upd H5 u (.tup [.ref t,.ref r]) u = some (.tup [.ref t,.ref r]):=zab
   generalize upd H5 u (.tup [.ref t,.ref r]) = H6 at s6 u6 ⊢
   have s46:=s5.trans s6
   have h6:=s46 _ _ h4
   have lz:zs.length = es.length:=Paired.length pr
   have le:es.length = (ks'.take i).length:=by rw [← em,List.length_map]
   rw [List.length_take] at le
   have nr:r ≠ D3:=fun z=>by rw [z,h4] at hr5; cases hr5
   have fr:H r = none:=(s0b.trans sm).free hr5
   have few':=few q.1
   refine ⟨zs,h6,zal (by lia),[],_,zs ++ [.ref u],es ++ [(q.1,ss)],rfl,(sm.trans s46).upd hD3,zab,?_,by rw [List.map_append,em,take_snoc er]; rfl,fun e he=>?_⟩
   ·have wr:∀ {v:V} {e:List Int × List Stt},EntN H H6 D3 v e → EntN H (upd H6 D3 (.lst (zs ++ [.ref u]))) D3 v e:=fun ⟨t,p,q,a1,a2,a3,a4,a5,a6⟩=>⟨t,p,q,a1,zbd (za3 h6) _ _ a2,zbd (za3 h6) _ _ a3,a4.wr (za3 h6) a6,a5,a6⟩
    exact zak (R:=EntN H (upd H6 D3 (.lst (zs ++ [.ref u]))) D3) (wr (e:=(q.1,ss)) ⟨u,t,r,rfl,u6,(sm.trans s46) _ _ ht,hspan.same s6,fr,nr⟩) (Paired.mapP pr (by rintro _ _ ⟨t,p,q,a1,a2,a3,a4,a5,a6⟩; exact wr ⟨t,p,q,a1,s46 _ _ a2,s46 _ _ a3,a4.same s46,a5,a6⟩))
   ·rcases List.mem_append.mp he with z | z
    ·exact good e z
    ·rw [List.mem_singleton.mp z]
     refine ⟨can,?_,fun m=>by rw [eqs m,eg]⟩
     rw [eg] at lss
     show ss.length ≤ 63
     lia
  ·intro _ σ H4 h_
   refine zaa ?_; intro G_; obtain ⟨o,zs,es,rfl,sm,h4,pr,em,good⟩:=h_
   rw [ly2,List.take_length] at em
   refine k D3 H4 es (s0b.trans sm) f3 ⟨zs,h4,pr⟩ ⟨by rw [em]; exact pw2,by rw [em]; exact (pm2.nodup_iff).mpr I.nd,fun r=>?_,fun e he=>(good e he).1,fun e he=>(good e he).2.1,fun e he=>(good e he).2.2⟩
   rw [em,pm2.mem_iff,I.rows]
   simp
end
theorem zda {es:List Ent} {i:Nat} {e:Ent} (h:es[i]? = some e) : zap (es.take (i + 1)) = zap (es.take i) ++ e.2.map fun s=>(e.1,s):=by
 rw [take_snoc h]; unfold zap; rw [List.flatMap_append]; simp
theorem zdo (es:List Ent) (i:Nat) : (zap (es.take i)).length ≤ (zap es).length:=by
 have:zap es = zap (es.take i) ++ zap (es.drop i):=by
  have e:=List.take_append_drop i es
  conv=>lhs; rw [← e]
  unfold zap; rw [List.flatMap_append]
 rw [this,List.length_append]; lia
section
variable {P:Program} {w:World} {K:PySem.W.Frag} {mg:Str → Option Value} {base:Heap}
def zco:Sp:=fun vs H Q _=>∃ (a:Addr) (es:List Ent),vs = [.ref a] ∧ SheetAt H a es ∧ (zap es).length ≤ 4900 ∧
 ∀ (r:Addr) (H':Hp) (xs:List V),Same H H' → H r = none → H' r = some (.lst xs) → Paired (FactAt H') xs (zap es) → Q (.ref r) H'
theorem zdU:FnScope ["entries","facts","row","span"] ["entries"] (zae zcx):=⟨rfl,rfl,rfl,by decide +kernel,rfl,by decide +kernel,by decide +kernel⟩
theorem zgG {f:Addr} {fd:FuncData} (F:Fun K "facts_of" "facts_of" zcx f fd) : FnOk P w K mg base CX0 1 f fd ["entries"] zco:=by
 refine F.okJL zdU (fun vs H Q E h=>?_) (fun cdv A outer s H vs Q E hr h=>?_)
 ·refine zaa ?_; intro G_; obtain ⟨_,_,rfl,_⟩:=h
  rfl
 ·intro X_ D_; refine zaa ?_; intro G_; obtain ⟨a,es,rfl,⟨xs,ha,hs⟩,hz,k⟩:=h
  have nd:=zdU.nd
  have nd3:(["start","end","row"] : List Str).Nodup:=by decide +kernel
  refine ⟨_,(zac (zam 1 nd (zbT a0))
   (zac (zc3 (zbe (e_v 0)) (zfA (zaO (g_n 2 nd) (zaO (g_n 3 nd) zc9)))
    (zaj (znF (e_v 1) (a1c (zcL (Nc:=["start","end","row"]) (js:=[none,none,some 2]) (g:=(gTup K 2 (zkK (zaL 0) (zkK (zaL 1) gNil)))) (tt:=tYes) (te:=(tTup (zax (tVar 2) (zax (tVar 0) (zax (tVar 1) tNil)))))
   (zbL rfl rfl rfl rfl (fun x c h=>by (obtain ⟨rfl,rfl⟩ : x = _ ∧ c = _:=(by simpa using h)); rfl) rfl rfl rfl) (zbe (e_v 3))
   (fun pins C s3 H3 fp=>⟨(zfA (zaO (g_n 0 nd3) (zaO (g_n 1 nd3) zc9))),.inl ⟨rfl,rfl⟩,(za5 (ac (e_v 2) (ac (e_v 0) (a1 (e_v 1)))))⟩))))))
   (zaj (zas (e_v 1))))),?_⟩
  have lx:xs.length = es.length:=Paired.length hs
  with_reducible refine zah ?_; intro E_ U_
  refine ⟨Nat.zero_le _,fun b hb=>?_⟩
  have s0:Same H (upd H b (.lst [])):=(Same.refl H).upd hb
  with_reducible refine zai ?_; intro E_ U_ S_
  refine ⟨_,rfl,a,rfl,⟨xs,SqL.of (s0 _ _ ha)⟩,za1 (K:=K) (a:=a) (xs:=xs) (fun i σ H'=>∃ (o1 o2:Option V) (ys:List V),σ = [some (.ref a),some (.ref b),o1,o2] ∧ Same H H' ∧ H' b = some (.lst ys) ∧ Paired (FactAt H') ys (zap (es.take i)))
   ⟨none,none,[],rfl,s0,zab,.nil⟩ (by rintro i σ H' _ ⟨_,_,_,_,sm,_⟩; exact SqL.of (sm _ _ ha)) ?_ ?_⟩
  ·intro J_ E_; intro i x σ H2 hx h_
   refine zaa ?_; intro G_; obtain ⟨o1,o2,ys,rfl,sm,h2,pr⟩:=h_
   refine zaa ?_; intro G_; obtain ⟨e,he,t,p,q,rfl,ht,hp,⟨zs,hq,hzs⟩⟩:=zaH hs hx
   have ltk:=zdo es (i + 1)
   rw [zda he,List.length_append,List.length_map] at ltk
   have lzs:zs.length = e.2.length:=Paired.length hzs
   refine ⟨t,exg _ rfl ⟨SqT.of (sm _ _ ht),rfl,_,exg _ rfl ⟨_,exg _ rfl ⟨rfl,?_⟩⟩⟩⟩
   refine (exg _ rfl ⟨.inl ⟨rfl,_,SqL.of h2⟩,exg _ rfl ⟨q,rfl,⟨zs,SqL.of (sm _ _ hq)⟩,fun D hD=>?_⟩⟩)
   refine zbg (K:=K) (a:=q) (xs:=zs) (fun j _ σ H4=>∃ (o1 o2:Option V) (ws:List V),σ = [o1,o2,some (.ref p)] ∧ Same H2 H4 ∧ H4 D = some (.lst ws) ∧ Paired (FactAt H4) ws ((e.2.take j).map fun s=>(e.1,s)))
    ⟨none,none,[],rfl,(Same.refl H2).upd hD,zab,.nil⟩ (by rintro j _ σ H4 _ ⟨_,_,_,_,sm4,_⟩; exact SqL.of (sm4 _ _ (sm _ _ hq))) ?_ ?_
   ·intro J_; intro j y _ σ H4 hy h_
    refine zaa ?_; intro G_; obtain ⟨o1,o2,ws,rfl,sm4,h4,pw⟩:=h_
    refine zaa ?_; intro G_; obtain ⟨st,hst,u,rfl,hu⟩:=zaH hzs hy
    have s04:=sm.trans sm4
    refine ⟨u,exg _ rfl ⟨SqT.of (s04 _ _ hu),rfl,_,exg _ rfl ⟨_,exg _ rfl ⟨rfl,?_⟩⟩⟩⟩
    refine (exg _ rfl ((exg _ rfl ((exg _ rfl ⟨by show 3 ≤ sizeLine; decide,fun v hv=>?_⟩)))))
    have s5:Same H4 (upd H4 v (.tup [.ref p,vO st.1,vO st.2])):=(Same.refl H4).upd hv
    have u5:upd H4 v (.tup [.ref p,vO st.1,vO st.2]) v = some (.tup [.ref p,vO st.1,vO st.2]):=zab
    generalize upd H4 v (.tup [.ref p,vO st.1,vO st.2]) = H5 at s5 u5 ⊢
    have lw:=Paired.length pw
    rw [List.length_map,List.length_take] at lw
    have nt:=za3 (s5 _ _ h4)
    refine ⟨ws,s5 _ _ h4,Nat.lt_of_le_of_lt (show ws.length ≤ 5000 by lia) (by decide),[],_,_,ws ++ [.ref v],rfl,(sm4.trans s5).upd hD,zab,?_⟩
    rw [take_snoc hst,List.map_append]
    show Paired (FactAt (upd H5 D (.lst (ws ++ [.ref v])))) (ws ++ [.ref v]) (((e.2.take j).map fun s=>(e.1,s)) ++ [(e.1,st)])
    have fv:FactAt (upd H5 D (.lst (ws ++ [.ref v]))) (.ref v) (e.1,st):=⟨v,p,rfl,zbd nt _ _ u5,zbd nt _ _ ((s04.trans s5) _ _ hp)⟩
    exact zak (R:=FactAt (upd H5 D (.lst (ws ++ [.ref v])))) fv (zdL (fun b zs h=>zbd nt b zs (s5 _ _ h)) pw)
   ·intro _ σ H4 h_
    refine zaa ?_; intro G_; obtain ⟨o1,o2,ws,rfl,sm4,h4,pw⟩:=h_
    rw [lzs,List.take_length] at pw
    have nbD:b ≠ D:=zaf h2 hD
    have ly:=Paired.length pr
    have lw:=Paired.length pw
    rw [List.length_map] at lw
    have nt:=za3 (sm4 _ _ h2)
    refine ⟨b,D,ys,ws,rfl,rfl,sm4 _ _ h2,h4,Nat.le_trans (show ys.length + ws.length ≤ 5000 by lia) (by decide),_,_,ys ++ ws,rfl,(sm.trans sm4).upd hb,zab,?_⟩
    rw [zda he]
    exact zhM (zdL (fun b zs h=>zbd nt b zs (sm4 _ _ h)) pr) (zdL (fun b zs h=>zbd nt b zs h) pw)
  ·intro σ H2 h_
   refine zaa ?_; intro G_; obtain ⟨o1,o2,ys,rfl,sm,h2,pr⟩:=h_
   rw [lx,List.take_length] at pr
   exact (exg _ rfl (k b H2 ys sm hb h2 pr))
end
section
variable {P:Program} {w:World} {K:PySem.W.Frag} {mg:Str → Option Value} {base:Heap}
theorem zg0:FnScope ["condition","row","kind"] ["condition","row"] (zae ze8):=⟨rfl,rfl,rfl,by decide +kernel,rfl,by decide +kernel,by decide +kernel⟩
theorem zg1 {f:Addr} {fd:FuncData} (F:Fun K "meets" "meets" ze8 f fd) (hm:mg "meets" = some (.ref f)) (hk:PySem.W.keepIn K (.ref f) = true) (hb:Binds K fd ["condition","row"] []) : ∀ n,FnOk P w K mg base CX0 n f fd ["condition","row"] (zfh n)
 | 0=>FnOk.none (by rintro _ _ _ _ ⟨_,_,_,_,_,_,_,_,h,_⟩; exact absurd h (Nat.not_lt_zero _))
 | n + 1 => by
  have F_meets:FnP P w K mg base n "meets" ["condition","row"] (zfh n):=⟨f,fd,zg1 F hm hk hb n,hm,hk,hb⟩
  refine F.okJL zg0 (fun vs H Q E h=>?_) (fun cdv A outer s H vs Q E hr h=>?_)
  ·refine zaa ?_; intro G_; obtain ⟨_,_,_,_,rfl,_⟩:=h
   rfl
  ·intro X_ D_; refine zaa ?_; intro G_; obtain ⟨v,rv,c,row,rfl,hc,⟨tr,rfl,hrow⟩,ok,dp,k⟩:=h
   refine ⟨_,(zac (zam 2 zg0.nd (e_ix zaw (e_v 0) e_i))
   (zac (s_if (zaZ o_eq (e_v 2) e_s) (zaj (zas (zdh o_eq (e_ix zaw (e_v 1) (e_ix zaw (e_v 0) e_i)) (e_ix zaw (e_v 1) (e_ix zaw (e_v 0) e_i))))) zaW)
   (zac (s_if (zaZ o_eq (e_v 2) e_s) (zaj (zas (zdh o_eq (e_ix zaw (e_v 1) (e_ix zaw (e_v 0) e_i)) (e_ix zaw (e_v 0) e_i)))) zaW)
   (zac (s_if (zaZ o_eq (e_v 2) e_s) (zaj (zas (zdh o_lt (e_ix zaw (e_v 1) (e_ix zaw (e_v 0) e_i)) (e_ix zaw (e_v 1) (e_ix zaw (e_v 0) e_i))))) zaW)
   (zac (s_if (zaZ o_eq (e_v 2) e_s) (zaj (zas (zdh o_lt (e_ix zaw (e_v 1) (e_ix zaw (e_v 0) e_i)) (e_ix zaw (e_v 0) e_i)))) zaW)
   (zac (s_if (zaZ o_eq (e_v 2) e_s) (zaj (zas (zgF (e_fn F_meets hr (ac (e_ix zaw (e_v 0) e_i) (a1 (e_v 1))) (Nat.le_refl _)) (zd6 (e_fn F_meets hr (ac (e_ix zaw (e_v 0) e_i) (a1 (e_v 1))) (Nat.le_refl _)))))) zaW)
   (zac (s_if (zaZ o_eq (e_v 2) e_s) (zaj (zas (e_or (e_fn F_meets hr (ac (e_ix zaw (e_v 0) e_i) (a1 (e_v 1))) (Nat.le_refl _)) (zd6 (e_fn F_meets hr (ac (e_ix zaw (e_v 0) e_i) (a1 (e_v 1))) (Nat.le_refl _)))))) zaW)
   (zaj (zas (zmf (e_fn F_meets hr (ac (e_ix zaw (e_v 0) e_i) (a1 (e_v 1))) (Nat.le_refl _)))))))))))),?_⟩
   cases c with
   | same i j =>
    refine zaa ?_; intro G_; obtain ⟨t,rfl,ht⟩:=hc
    with_reducible refine zah ?_; intro E_ U_
    refine (exg _ rfl ⟨t,_,0,exg _ rfl ⟨rfl,SqT.of ht,rfl,?_⟩⟩)
    with_reducible refine zai ?_; intro E_ U_ S_
    refine (exg _ rfl ⟨rfl,exg _ rfl (zeM ?_)⟩)
    refine (exg _ rfl ((exg _ rfl ⟨t,_,1,exg _ rfl ⟨rfl,SqT.of ht,rfl,tr,_,_,exg _ rfl ⟨rfl,SqT.of hrow,zby ok.1,exg _ rfl ((exg _ rfl ⟨t,_,2,exg _ rfl ⟨rfl,SqT.of ht,rfl,tr,_,_,exg _ rfl ⟨rfl,SqT.of hrow,zby ok.2,rfl,?_⟩⟩⟩))⟩⟩⟩)))
    rw [dI,zaU ok.1,zaU ok.2]
    exact k
   | isv i m =>
    refine zaa ?_; intro G_; obtain ⟨t,rfl,ht⟩:=hc
    with_reducible refine zah ?_; intro E_ U_
    refine (exg _ rfl ⟨t,_,0,exg _ rfl ⟨rfl,SqT.of ht,rfl,?_⟩⟩)
    with_reducible refine zai ?_; intro E_ U_ S_
    refine (exg _ rfl ⟨rfl,exg _ rfl (zaJ (by decide +kernel) ?_)⟩)
    refine (exg _ rfl ⟨rfl,exg _ rfl (zeM ?_)⟩)
    refine (exg _ rfl ((exg _ rfl ⟨t,_,1,exg _ rfl ⟨rfl,SqT.of ht,rfl,tr,_,_,exg _ rfl ⟨rfl,SqT.of hrow,zby (show i < row.length from ok),exg _ rfl ⟨t,_,2,exg _ rfl ⟨rfl,SqT.of ht,rfl,rfl,?_⟩⟩⟩⟩⟩)))
    rw [dI,zaU (show i < row.length from ok)]
    exact k
   | less i j =>
    refine zaa ?_; intro G_; obtain ⟨t,rfl,ht⟩:=hc
    with_reducible refine zah ?_; intro E_ U_
    refine (exg _ rfl ⟨t,_,0,exg _ rfl ⟨rfl,SqT.of ht,rfl,?_⟩⟩)
    with_reducible refine zai ?_; intro E_ U_ S_
    refine (exg _ rfl ⟨rfl,exg _ rfl (zaJ (by decide +kernel) ?_)⟩)
    refine (exg _ rfl ⟨rfl,exg _ rfl (zaJ (by decide +kernel) ?_)⟩)
    refine (exg _ rfl ⟨rfl,exg _ rfl (zeM ?_)⟩)
    refine (exg _ rfl ((exg _ rfl ⟨t,_,1,exg _ rfl ⟨rfl,SqT.of ht,rfl,tr,_,_,exg _ rfl ⟨rfl,SqT.of hrow,zby ok.1,exg _ rfl ((exg _ rfl ⟨t,_,2,exg _ rfl ⟨rfl,SqT.of ht,rfl,tr,_,_,exg _ rfl ⟨rfl,SqT.of hrow,zby ok.2,_,exg _ rfl ⟨rfl,?_⟩⟩⟩⟩))⟩⟩⟩)))
    rw [zaU ok.1,zaU ok.2]
    exact k
   | undr i m =>
    refine zaa ?_; intro G_; obtain ⟨t,rfl,ht⟩:=hc
    with_reducible refine zah ?_; intro E_ U_
    refine (exg _ rfl ⟨t,_,0,exg _ rfl ⟨rfl,SqT.of ht,rfl,?_⟩⟩)
    with_reducible refine zai ?_; intro E_ U_ S_
    refine (exg _ rfl ⟨rfl,exg _ rfl (zaJ (by decide +kernel) ?_)⟩)
    refine (exg _ rfl ⟨rfl,exg _ rfl (zaJ (by decide +kernel) ?_)⟩)
    refine (exg _ rfl ⟨rfl,exg _ rfl (zaJ (by decide +kernel) ?_)⟩)
    refine (exg _ rfl ⟨rfl,exg _ rfl (zeM ?_)⟩)
    refine (exg _ rfl ((exg _ rfl ⟨t,_,1,exg _ rfl ⟨rfl,SqT.of ht,rfl,tr,_,_,exg _ rfl ⟨rfl,SqT.of hrow,zby (show i < row.length from ok),exg _ rfl ⟨t,_,2,exg _ rfl ⟨rfl,SqT.of ht,rfl,_,exg _ rfl ⟨rfl,?_⟩⟩⟩⟩⟩⟩)))
    rw [zaU (show i < row.length from ok)]
    exact k
   | both a b =>
    refine zaa ?_; intro G_; obtain ⟨t,va,vb,rfl,ht,ha,hb'⟩:=hc
    have dp':max a.deep b.deep + 1 < n + 1:=dp
    have k':Q (.bl (a.sem row && b.sem row)) H:=k
    with_reducible refine zah ?_; intro E_ U_
    refine (exg _ rfl ⟨t,_,0,exg _ rfl ⟨rfl,SqT.of ht,rfl,?_⟩⟩)
    with_reducible refine zai ?_; intro E_ U_ S_
    refine (exg _ rfl ⟨rfl,exg _ rfl (zaJ (by decide +kernel) ?_)⟩)
    refine (exg _ rfl ⟨rfl,exg _ rfl (zaJ (by decide +kernel) ?_)⟩)
    refine (exg _ rfl ⟨rfl,exg _ rfl (zaJ (by decide +kernel) ?_)⟩)
    refine (exg _ rfl ⟨rfl,exg _ rfl (zaJ (by decide +kernel) ?_)⟩)
    refine (exg _ rfl ⟨rfl,exg _ rfl (zeM ?_)⟩)
    refine (exg _ rfl ⟨t,_,1,exg _ rfl ⟨rfl,SqT.of ht,rfl,exg _ rfl ⟨va,_,a,row,rfl,ha,⟨tr,rfl,hrow⟩,ok.1,by lia,exg _ rfl ?_⟩⟩⟩)
    cases e:a.sem row with
    | false =>
     rw [e] at k'
     exact iteF k'
    | true =>
     rw [e,Bool.true_and] at k'
     exact iteT (exg _ rfl ⟨t,_,2,exg _ rfl ⟨rfl,SqT.of ht,rfl,exg _ rfl ⟨vb,_,b,row,rfl,hb',⟨tr,rfl,hrow⟩,ok.2,by lia,k'⟩⟩⟩)
   | either a b =>
    refine zaa ?_; intro G_; obtain ⟨t,va,vb,rfl,ht,ha,hb'⟩:=hc
    have dp':max a.deep b.deep + 1 < n + 1:=dp
    have k':Q (.bl (a.sem row || b.sem row)) H:=k
    with_reducible refine zah ?_; intro E_ U_
    refine (exg _ rfl ⟨t,_,0,exg _ rfl ⟨rfl,SqT.of ht,rfl,?_⟩⟩)
    with_reducible refine zai ?_; intro E_ U_ S_
    refine (exg _ rfl ⟨rfl,exg _ rfl (zaJ (by decide +kernel) ?_)⟩)
    refine (exg _ rfl ⟨rfl,exg _ rfl (zaJ (by decide +kernel) ?_)⟩)
    refine (exg _ rfl ⟨rfl,exg _ rfl (zaJ (by decide +kernel) ?_)⟩)
    refine (exg _ rfl ⟨rfl,exg _ rfl (zaJ (by decide +kernel) ?_)⟩)
    refine (exg _ rfl ⟨rfl,exg _ rfl (zaJ (by decide +kernel) ?_)⟩)
    refine (exg _ rfl ⟨rfl,exg _ rfl (zeM ?_)⟩)
    refine (exg _ rfl ⟨t,_,1,exg _ rfl ⟨rfl,SqT.of ht,rfl,exg _ rfl ⟨va,_,a,row,rfl,ha,⟨tr,rfl,hrow⟩,ok.1,by lia,exg _ rfl ?_⟩⟩⟩)
    cases e:a.sem row with
    | true =>
     rw [e,Bool.true_or] at k'
     exact iteT k'
    | false =>
     rw [e,Bool.false_or] at k'
     exact iteF (exg _ rfl ⟨t,_,2,exg _ rfl ⟨rfl,SqT.of ht,rfl,exg _ rfl ⟨vb,_,b,row,rfl,hb',⟨tr,rfl,hrow⟩,ok.2,by lia,k'⟩⟩⟩)
   | neg a =>
    refine zaa ?_; intro G_; obtain ⟨t,va,rfl,ht,ha⟩:=hc
    have dp':a.deep + 1 < n + 1:=dp
    with_reducible refine zah ?_; intro E_ U_
    refine (exg _ rfl ⟨t,_,0,exg _ rfl ⟨rfl,SqT.of ht,rfl,?_⟩⟩)
    with_reducible refine zai ?_; intro E_ U_ S_
    refine (exg _ rfl ⟨rfl,exg _ rfl (zaJ (by decide +kernel) ?_)⟩)
    refine (exg _ rfl ⟨rfl,exg _ rfl (zaJ (by decide +kernel) ?_)⟩)
    refine (exg _ rfl ⟨rfl,exg _ rfl (zaJ (by decide +kernel) ?_)⟩)
    refine (exg _ rfl ⟨rfl,exg _ rfl (zaJ (by decide +kernel) ?_)⟩)
    refine (exg _ rfl ⟨rfl,exg _ rfl (zaJ (by decide +kernel) ?_)⟩)
    refine (exg _ rfl ⟨rfl,exg _ rfl (zaJ (by decide +kernel) ?_)⟩)
    exact (exg _ rfl ⟨t,_,1,exg _ rfl ⟨rfl,SqT.of ht,rfl,exg _ rfl ⟨va,_,a,row,rfl,ha,⟨tr,rfl,hrow⟩,ok,by lia,exg _ rfl k⟩⟩⟩)
end
section
variable {P:Program} {w:World} {K:PySem.W.Frag} {mg:Str → Option Value} {base:Heap}
def zb9:Sp:=fun vs H Q _=>∃ (a:Addr) (ss:List Stt),vs = [.ref a] ∧ SpanAt H a ss ∧ ss.length ≤ 400 ∧ ∀ (p:Addr) (H':Hp),Same H H' → H p = none → H' p = some (.lst ((bnds ss).map V.int)) → Q (.ref p) H'
theorem zbv:FnScope ["span","bounds","start","end"] ["span"] (zae zb3):=⟨rfl,rfl,rfl,by decide +kernel,rfl,by decide +kernel,by decide +kernel⟩
theorem zfJ {f:Addr} {fd:FuncData} (F:Fun K "bounds_of" "bounds_of" zb3 f fd) : FnOk P w K mg base CX0 1 f fd ["span"] zb9:=by
 refine F.okJL zbv (fun vs H Q E h=>?_) (fun cdv A outer s H vs Q E hr h=>?_)
 ·refine zaa ?_; intro G_; obtain ⟨_,_,rfl,_⟩:=h
  rfl
 ·intro X_ D_; refine zaa ?_; intro G_; obtain ⟨a,ss,rfl,⟨xs,ha,hs⟩,hz,k⟩:=h
  have nd:(["bound"] : List Str).Nodup:=by decide +kernel
  refine ⟨_,(zac (zam 1 zbv.nd (zbT a0))
   (zac (zc3 (zbe (e_v 0)) (zfA (zaO (g_n 2 zbv.nd) (zaO (g_n 3 zbv.nd) zc9)))
    (zaj (znF (e_v 1) (a1c (zcL (Nc:=["bound"]) (js:=[none]) (g:=(zaL 0)) (tt:=(tB (zlM (tVar 0)))) (te:=(tVar 0))
   (zbL rfl rfl rfl rfl (fun x c h=>by cases h) rfl rfl rfl) (zoy (za5 (ac (e_v 2) (a1 (e_v 3)))))
   (fun pins C s3 H3 fp=>⟨(g_n 0 nd),.inr (exg _ rfl (zn7 (e_v 0))),(e_v 0)⟩))))))
   (zaj (zas (e_v 1))))),?_⟩
  with_reducible refine zah ?_; intro E_ U_
  refine ⟨Nat.zero_le _,fun b hb=>?_⟩
  have s0:Same H (upd H b (.lst [])):=(Same.refl H).upd hb
  have lxs:xs.length = ss.length:=Paired.length hs
  with_reducible refine zai ?_; intro E_ U_ S_
  refine ⟨_,rfl,a,rfl,⟨xs,SqL.of (s0 _ _ ha)⟩,za1 (K:=K) (a:=a) (xs:=xs) (fun i σ H'=>∃ (o1 o2:Option V),σ = [some (.ref a),some (.ref b),o1,o2] ∧ Same H H' ∧ H' b = some (.lst ((bnds (ss.take i)).map V.int)))
   ⟨none,none,rfl,s0,zab⟩ (by rintro i σ H' _ ⟨_,_,_,sm,_⟩; exact SqL.of (sm _ _ ha)) ?_ ?_⟩
  ·intro J_ E_; intro i x σ H2 hx h_
   refine zaa ?_; intro G_; obtain ⟨o1,o2,rfl,sm,h2⟩:=h_
   refine zaa ?_; intro G_; obtain ⟨q,hq,t,rfl,ht⟩:=zaH hs hx
   refine ⟨t,exg _ rfl ⟨SqT.of (sm _ _ ht),rfl,_,exg _ rfl ⟨_,exg _ rfl ⟨rfl,?_⟩⟩⟩⟩
   refine (exg _ rfl ⟨.inl ⟨rfl,_,SqL.of h2⟩,exg _ rfl ((exg _ rfl ⟨by show 2 ≤ sizeLine; decide,fun t' ht'=>?_⟩))⟩)
   have s1:Same H2 (upd H2 t' (.tup [vO q.1,vO q.2])):=(Same.refl _).upd ht'
   have g1:upd H2 t' (.tup [vO q.1,vO q.2]) t' = some (.tup (([q.1,q.2] : List (Option Int)).map vO)):=zab
   generalize upd H2 t' (.tup [vO q.1,vO q.2]) = H3 at s1 g1 ⊢
   refine ⟨t',rfl,⟨_,SqT.of g1⟩,fun D hD=>?_⟩
   have hi:i < ss.length:=(List.getElem?_eq_some_iff.mp hq).1
   refine zi0 (K:=K) (a:=t') (xs:=([q.1,q.2] : List (Option Int)).map vO) (fun j σ H4=>∃ o,σ = [o] ∧ Same H3 H4 ∧ H4 D = some (.lst (((([q.1,q.2] : List (Option Int)).take j).flatMap Option.toList).map V.int)))
    ⟨none,rfl,(Same.refl H3).upd hD,zab⟩ (by rintro j σ H4 _ ⟨_,_,sm4,_⟩; exact SqT.of (sm4 _ _ g1)) ?_ ?_
   ·intro J_; intro j y σ H4 hy h_
    refine zaa ?_; intro G_; obtain ⟨o,rfl,sm4,h4⟩:=h_
    refine zaa ?_; intro G_; obtain ⟨oy,ey,rfl⟩:=zha hy
    have hj:j < 2:=(List.getElem?_eq_some_iff.mp ey).1
    refine (exg _ rfl ((exg _ rfl ?_)))
    cases oy with
    | none =>
     refine iteF (exg _ rfl ⟨sm4,?_⟩)
     rw [h4,take_snoc ey,List.flatMap_append]
     simp
    | some n =>
     refine iteT (exg _ rfl ⟨_,h4,?_,exg _ rfl ⟨sm4.upd hD,?_⟩⟩)
     ·refine zal ?_
      have:((([q.1,q.2] : List (Option Int)).take j).flatMap Option.toList).length ≤ 2:=by
       rcases q with ⟨x,y⟩
       rcases j with _ | _ | j <;> cases x <;> cases y <;> simp
      rw [List.length_map]
      lia
     ·rw [zab,take_snoc ey,List.flatMap_append]
      simp [vO]
   ·intro σ H4 h_
    refine zaa ?_; intro G_; obtain ⟨o,rfl,sm4,h4⟩:=h_
    have s4:=s1.trans sm4
    have nbD:b ≠ D:=zaf (s1 _ _ h2) hD
    refine ⟨b,D,_,exg _ rfl ⟨rfl,s4 _ _ h2,h4,?_,_,exg _ rfl ⟨(sm.trans s4).upd hb,?_⟩⟩⟩
    ·have l1:=zeR ss i
     have:((([q.1,q.2] : List (Option Int)).take 2).flatMap Option.toList).length ≤ 2:=by
      rcases q with ⟨x,y⟩
      cases x <;> cases y <;> simp
     have e:(([q.1,q.2] : List (Option Int)).map vO).length = 2:=rfl
     rw [List.length_map,List.length_map,e]
     refine Nat.le_of_lt (zal ?_)
     lia
    ·rw [zab,zi9 hq]
     simp
  ·intro σ H2 h_
   refine zaa ?_; intro G_; obtain ⟨o1,o2,rfl,sm,h2⟩:=h_
   rw [lxs,List.take_length] at h2
   exact (exg _ rfl (k b H2 sm hb h2))
def zdA:Sp:=fun vs H Q _=>∃ (a:Addr) (ns:List Int),vs = [.ref a] ∧ H a = some (.lst (ns.map V.int)) ∧ ns.Nodup ∧ ns.length ≤ 900 ∧ ∀ (p:Addr) (H':Hp) (kvs:List (Key × V)),Same H H' → H p = none → H' p = some (.dK kvs) → kvs.map (·.1) = ns.map Sum.inl → Q (.ref p) H'
theorem zjj:FnScope ["numbers"] ["numbers"] (zae zdM):=⟨rfl,rfl,rfl,by decide +kernel,rfl,by decide +kernel,by decide +kernel⟩
theorem zin {f:Addr} {fd:FuncData} (F:Fun K "marked" "marked" zdM f fd) (md:mg "dict" = none) : FnOk P w K mg base CX0 1 f fd ["numbers"] zdA:=by
 refine F.okJL zjj (fun vs H Q E h=>?_) (fun cdv A outer s H vs Q E hr h=>?_)
 ·refine zaa ?_; intro G_; obtain ⟨_,_,rfl,_⟩:=h
  rfl
 ·intro X_ D_; refine zaa ?_; intro G_; obtain ⟨a,ns,rfl,ha,nod,hz,k⟩:=h
  have nd:(["number"] : List Str).Nodup:=by decide +kernel
  refine ⟨_,(zaj (zas (e_ct zmy md PyProof.Rows.boot_dict (a1c (zcL (Nc:=["number"]) (js:=[none]) (g:=(zaL 0)) (tt:=tYes) (te:=(tTup (zax (tVar 0) (zax (tC (.bl true)) tNil))))
   (zbL rfl rfl rfl rfl (fun x c h=>by cases h) rfl rfl rfl) (zbe (e_v 0))
   (fun pins C s3 H3 fp=>⟨(g_n 0 nd),.inl ⟨rfl,rfl⟩,(za5 (ac (e_v 0) (a1 e_b)))⟩)))))),?_⟩
  refine (exg _ rfl ⟨a,rfl,⟨_,SqL.of ha⟩,fun D hD=>?_⟩)
  refine zbg (K:=K) (a:=a) (xs:=ns.map V.int) (fun i _ σ H2=>∃ o ys,σ = [o] ∧ Same H H2 ∧ H2 D = some (.lst ys) ∧ Paired (fun y (p:Int × V)=>∃ t,y = .ref t ∧ H2 t = some (.tup [.int p.1,p.2])) ys ((ns.take i).map fun n=>(n,.bl true)))
   ⟨none,[],rfl,(Same.refl H).upd hD,zab,.nil⟩ (by rintro i _ σ H2 _ ⟨_,_,_,sm,_⟩; exact SqL.of (sm _ _ ha)) ?_ ?_
  ·intro J_; intro i x _ σ H2 hx h_
   refine zaa ?_; intro G_; obtain ⟨o,ys,rfl,sm,h2,pr⟩:=h_
   refine zaa ?_; intro G_; obtain ⟨n,en,rfl⟩:=zha hx
   have ly:ys.length = ((ns.take i).map fun n=>((n,.bl true) : Int × V)).length:=Paired.length pr
   rw [List.length_map,List.length_take] at ly
   refine (exg _ rfl ⟨by show 2 ≤ sizeLine; decide,fun t ht=>?_⟩)
   have nDt:D ≠ t:=zaf h2 ht
   refine ⟨ys,by rw [zad nDt]; exact h2,zal (by lia),[],_,ys ++ [.ref t],rfl,?_,zab,?_⟩
   ·exact Same.upd (Same.trans sm ((Same.refl _).upd ht)) hD
   ·rw [take_snoc en,List.map_append]
    show Paired _ _ (_ ++ [(n,V.bl true)])
    refine zak (R:=fun y (p:Int × V)=>∃ t',y = V.ref t' ∧ (upd (upd H2 t (.tup [.int n,.bl true])) D (.lst (ys ++ [.ref t]))) t' = some (.tup [.int p.1,p.2])) (show ∃ t',V.ref t = V.ref t' ∧ (upd (upd H2 t (.tup [.int n,.bl true])) D (.lst (ys ++ [.ref t]))) t' = some (.tup [.int ((n,V.bl true) : Int × V).1,((n,V.bl true) : Int × V).2]) from ⟨t,rfl,by rw [zad nDt.symm,zab]⟩) ?_
    refine Paired.mapP pr fun y p ⟨t',e1,e2⟩=>⟨t',e1,?_⟩
    have n1:t' ≠ D:=fun z=>by rw [z,h2] at e2; cases e2
    rw [zad n1,zad (zaf e2 ht)]
    exact e2
  ·intro _ σ H2 h_
   refine zaa ?_; intro G_; obtain ⟨o,ys,rfl,sm,h2,pr⟩:=h_
   rw [List.length_map,List.take_length] at pr
   refine ⟨D,ys,ns.map fun n=>(n,.bl true),rfl,h2,pr,?_,by rw [List.length_map]; lia,?_⟩
   ·rw [List.map_map]
    have:((fun x:Int × V=>x.1) ∘ fun n:Int=>((n,.bl true) : Int × V)) = id:=rfl
    rw [this,List.map_id]
    exact nod
   ·intro p hp; exact k p _ _ (sm.trans ((Same.refl _).upd hp)) (sm.free hp) zab (by rw [List.map_map,List.map_map]; rfl)
def zbm:Sp:=fun vs H Q _=>∃ (a:Addr) (ss:List Stt),vs = [.ref a] ∧ SpanAt H a ss ∧ Q (.bl (fe ss)) H
theorem zdY:FnScope ["span"] ["span"] (zae zbo):=⟨rfl,rfl,rfl,by decide +kernel,rfl,by decide +kernel,by decide +kernel⟩
theorem zdV {f:Addr} {fd:FuncData} (F:Fun K "is_from_ever" "is_from_ever" zbo f fd) (B:Blts mg) : FnOk P w K mg base CX0 1 f fd ["span"] zbm:=by
 refine F.okJL zdY (fun vs H Q E h=>?_) (fun cdv A outer s H vs Q E hr h=>?_)
 ·refine zaa ?_; intro G_; obtain ⟨_,_,rfl,_⟩:=h
  rfl
 ·intro X_ D_; refine zaa ?_; intro G_; obtain ⟨a,ss,rfl,⟨xs,ha,hs⟩,k⟩:=h
  refine ⟨_,(zaj (zas (zgF (zdh o_gt (e_cb zdp B.len PySem.boot_len (a1 (e_v 0))) e_i) (zd6 (ziC (e_ix zaw (e_ix zaR (e_v 0) e_i) e_i)))))),?_⟩
  refine (exg _ rfl ⟨a,xs,rfl,.inl (SqL.of ha),_,exg _ rfl ⟨rfl,exg _ rfl ?_⟩⟩)
  cases hs with
  | nil=>exact iteF k
  | @cons x st xs' ss' r t =>
   refine zaa ?_; intro G_; obtain ⟨p,rfl,hp⟩:=r
   refine ite2 (fun _=>?_) (fun hc=>absurd (decide_eq_true (by simp)) hc)
   refine (exg _ rfl ⟨a,_,0,.ref p,rfl,rfl,SqL.of ha,zaT (j:=0) rfl,p,_,0,exg _ rfl ⟨rfl,SqT.of hp,rfl,?_⟩⟩)
   obtain ⟨x,y⟩:=st
   cases x <;> exact k
end
theorem zhk {κ:Type} [DecidableEq κ] {kvs:List (κ × V)} {k:κ} : (valV kvs k).isSome = true ↔ k ∈ kvs.map (·.1):=by
 unfold valV
 rw [Option.isSome_map,List.find?_isSome]
 simp
section
variable {P:Program} {w:World} {K:PySem.W.Frag} {mg:Str → Option Value} {base:Heap}
def spFw (fw:Bool → Bool → Bool) (f c:Addr) (fd:FuncData) (q:Str) : Sp:=fun vs H Q _=>∃ x y:Bool,vs = [.bl x,.bl y] ∧ H f = some (.ext (IsFn f fd)) ∧ H c = some (.ext (IsCd c q)) ∧ Q (.bl (fw x y)) H
def zbK (P:Program) (w:World) (K:PySem.W.Frag) (mg:Str → Option Value) (base:Heap) : Sp:=fun vs H Q _=>∃ (a b f c:Addr) (fd:FuncData) (q:Str) (fw:Bool → Bool → Bool) (l r:List Stt) (g:List Int),vs = [.ref a,.ref b,.ref f] ∧
 FnOk P w K mg base CX0 1 f fd ["in_one","in_other"] (spFw fw f c fd q) ∧ Binds K fd ["in_one","in_other"] [] ∧ H f = some (.ext (IsFn f fd)) ∧ H c = some (.ext (IsCd c q)) ∧ SpanAt H a l ∧ SpanAt H b r ∧ Can l ∧ Can r ∧ g.length < 64 ∧
 (∀ x ∈ bnds l,x ∈ g) ∧ (∀ x ∈ bnds r,x ∈ g) ∧ l.length ≤ 400 ∧ r.length ≤ 400 ∧
 ∀ (p:Addr) (H':Hp) (zs:List Stt),Same H H' → H p = none → SpanAt H' p zs → Can zs → (∀ m,zag m zs = fw (zag m l) (zag m r)) → zs.length ≤ 100 → Q (.ref p) H'
theorem zao:FnScope ["one","other","wanted","one_turns","other_turns","in_one","in_other","inside","start","span","bound","was_inside"] ["one","other","wanted"] (zae zcr):=⟨rfl,rfl,rfl,by decide +kernel,rfl,by decide +kernel,by decide +kernel⟩
theorem zgk {f:Addr} {fd:FuncData} (F:Fun K "combined" "combined" zcr f fd) (B:Blts mg) (F_bounds_of:FnP P w K mg base 1 "bounds_of" ["span"] zb9) (F_marked:FnP P w K mg base 1 "marked" ["numbers"] zdA)
  (F_is_from_ever:FnP P w K mg base 1 "is_from_ever" ["span"] zbm) : FnOk P w K mg base CX0 2 f fd ["one","other","wanted"] (zbK P w K mg base):=by
 refine F.okJL zao (fun vs H Q E h=>?_) (fun cdv A outer s H vs Q E hr h=>?_)
 ·refine zaa ?_; intro G_; obtain ⟨_,_,_,_,_,_,_,_,_,_,rfl,_⟩:=h
  rfl
 ·intro X_ D_; refine zaa ?_; intro G_; obtain ⟨a,b,fl,c,fdl,q,fw,l,r,g,rfl,FL,hbd,hfl,hcl,hl,hr',canl,canr,g64,bl,br,l400,r400,k⟩:=h
  have hpw:∀ vs H Q,spFw fw fl c fdl q vs H Q E0 → H fl = some (.ext (IsFn fl fdl)):=(by rintro vs H Q ⟨_,_,_,h,_⟩; exact h)
  refine ⟨_,(zac (zam 3 zao.nd (e_fn F_marked hr (a1 (e_fn F_bounds_of hr (a1 (e_v 0))))))
   (zac (zam 4 zao.nd (e_fn F_marked hr (a1 (e_fn F_bounds_of hr (a1 (e_v 1))))))
   (zac (zam 5 zao.nd (e_fn F_is_from_ever hr (a1 (e_v 0))))
   (zac (zam 6 zao.nd (e_fn F_is_from_ever hr (a1 (e_v 1))))
   (zac (zam 7 zao.nd (zle 2 FL hr hbd (ac (e_v 5) (a1 (e_v 6))) hpw))
   (zac (zam 8 zao.nd e_n)
   (zac (zam 9 zao.nd (zbT a0))
   (zac (zc3 (zbe (e_cb (zlD w) B.sorted PyProof.Rows.boot_sorted (a1 (e_op (zoA w) (e_ct (zk7 w) B.set PyProof.Rows.boot_set (a1 (e_v 3))) (e_ct (zk7 w) B.set PyProof.Rows.boot_set (a1 (e_v 4))))))) (g_n 10 zao.nd)
    (zac (zam 5 zao.nd (zdh o_ne (e_v 5) (zn9 hr (e_v 10) (e_v 3))))
    (zac (zam 6 zao.nd (zdh o_ne (e_v 6) (zn9 hr (e_v 10) (e_v 4))))
    (zac (zam 11 zao.nd (e_v 7))
    (zac (zam 7 zao.nd (zle 2 FL hr hbd (ac (e_v 5) (a1 (e_v 6))) hpw))
    (zac (s_if (JW.jt (w_and (zcy (e_v 7)) (zcW (zh0 (zcy (e_v 11)))))) (zaj (zam 8 zao.nd (e_v 10))) zaW)
    (zaj (s_if (JW.jt (w_and (zcy (e_v 11)) (zcW (zh0 (zcy (e_v 7)))))) (zaj (zd4 (e_v 9) (za5 (ac (e_v 8) (a1 (e_v 10)))))) zaW))))))))
   (zac (s_if (zcy (e_v 7)) (zaj (zd4 (e_v 9) (za5 (ac (e_v 8) (a1 e_n))))) zaW)
   (zaj (zas (e_v 9)))))))))))),?_⟩
  have ndl:(bnds l).Nodup:=(zbw canl).imp fun h=>by lia
  have ndr:(bnds r).Nodup:=(zbw canr).imp fun h=>by lia
  have lenl:(bnds l).length ≤ g.length:=len_sub ndl bl
  have lenr:(bnds r).length ≤ g.length:=len_sub ndr br
  with_reducible refine zah ?_; intro E_ U_
  refine (exg _ rfl ⟨a,l,rfl,hl,l400,fun p1 H1 s1 hp1 hH1=>⟨p1,bnds l,rfl,hH1,ndl,by lia,fun d1 H2 kv1 s2 hd1 hH2 hk1=>?_⟩⟩)
  have s02:=s1.trans s2
  with_reducible refine zai ?_; intro E_ U_ S_
  refine (exg _ rfl ⟨b,r,rfl,hr'.same s02,r400,fun p2 H3 s3 hp2 hH3=>⟨p2,bnds r,rfl,hH3,ndr,by lia,fun d2 H4 kv2 s4 hd2 hH4 hk2=>?_⟩⟩)
  have s04:=s02.trans (s3.trans s4)
  have hH2':=(s3.trans s4) _ _ hH2
  with_reducible refine zai ?_; intro E_ U_ S_
  refine (exg _ rfl ⟨a,l,rfl,hl.same s04,exg _ rfl ⟨b,r,rfl,hr'.same s04,?_⟩⟩)
  with_reducible refine zai ?_; intro E_ U_ S_
  refine ⟨rfl,exg _ rfl ((exg _ rfl ⟨fe l,fe r,rfl,s04 _ _ hfl,s04 _ _ hcl,?_⟩))⟩
  with_reducible refine zai ?_; intro E_ U_ S_
  refine ⟨Nat.zero_le _,fun sp hsp=>?_⟩
  have s5:Same H4 (upd H4 sp (.lst [])):=(Same.refl H4).upd hsp
  have hsp5:upd H4 sp (.lst []) sp = some (.lst []):=zab
  generalize upd H4 sp (.lst []) = H5 at s5 hsp5 ⊢
  with_reducible refine zai ?_; intro E_ U_ S_
  refine (exg _ rfl ⟨d1,kv1,bnds l,rfl,s5 _ _ hH2',hk1,by lia,fun q1 ms1 hq1 mem1 nd1 len1=>?_⟩)
  have s6:Same H5 (upd H5 q1 (setO w q1 ms1)):=(Same.refl H5).upd hq1
  have hq6:upd H5 q1 (setO w q1 ms1) q1 = some (setO w q1 ms1):=zab
  generalize upd H5 q1 (setO w q1 ms1) = H6 at s6 hq6 ⊢
  refine (exg _ rfl ⟨d2,kv2,bnds r,rfl,s6 _ _ (s5 _ _ hH4),hk2,by lia,fun q2 ms2 hq2 mem2 nd2 len2=>?_⟩)
  have s7:Same H6 (upd H6 q2 (setO w q2 ms2)):=(Same.refl H6).upd hq2
  have hq7:upd H6 q2 (setO w q2 ms2) q2 = some (setO w q2 ms2):=zab
  have n12:q1 ≠ q2:=zaf hq6 hq2
  generalize upd H6 q2 (setO w q2 ms2) = H7 at s7 hq7 ⊢
  refine ⟨q1,q2,ms1,ms2,rfl,rfl,n12,s7 _ _ hq6,hq7,by lia,fun q3 ks hq3 mem3 nd3 len3=>?_⟩
  have hks:∀ x,x ∈ ks ↔ x ∈ bnds l ∨ x ∈ bnds r:=fun x=>by rw [mem3,mem1,mem2]
  have lks:ks.length ≤ g.length:=len_sub nd3 fun x hx=>((hks x).mp hx).elim (bl x) (br x)
  refine ⟨q3,ks,rfl,zab,by lia,fun D B hD pm inc=>?_⟩
  have s9:Same H4 (upd (upd H7 q3 (setO w q3 ks)) D (.lst (B.map V.int))):=s5.trans (s6.trans (s7.trans (((Same.refl H7).upd hq3).trans ((Same.refl _).upd hD))))
  have hD9:upd (upd H7 q3 (setO w q3 ks)) D (.lst (B.map V.int)) D = some (.lst (B.map V.int)):=zab
  have hsp9:upd (upd H7 q3 (setO w q3 ks)) D (.lst (B.map V.int)) sp = some (.lst []):=(((Same.refl H7).upd hq3).trans ((Same.refl _).upd hD)) _ _ (s7 _ _ (s6 _ _ hsp5))
  have nDsp:D ≠ sp:=fun e=>by
   have:=((Same.refl H7).upd (o:=setO w q3 ks) hq3) _ _ (s7 _ _ (s6 _ _ hsp5))
   rw [← e,hD] at this
   cases this
  generalize upd (upd H7 q3 (setO w q3 ks)) D (.lst (B.map V.int)) = H9 at s9 hD9 hsp9 ⊢
  have memB:∀ x,x ∈ B ↔ x ∈ bnds l ∨ x ∈ bnds r:=fun x=>by rw [pm.mem_iff,hks]
  have lenB:B.length < 64:=by rw [pm.length_eq]; lia
  have in1:∀ bd:Int,(valV kv1 (Sum.inl bd)).isSome = decide (bd ∈ bnds l):=fun bd=>by
   rw [Bool.eq_iff_iff,zhk,decide_eq_true_iff,hk1]; simp
  have in2:∀ bd:Int,(valV kv2 (Sum.inl bd)).isSome = decide (bd ∈ bnds r):=fun bd=>by
   rw [Bool.eq_iff_iff,zhk,decide_eq_true_iff,hk2]; simp
  refine ⟨D,rfl,⟨_,SqL.of hD9⟩,za1 (K:=K) (a:=D) (xs:=B.map V.int) (fun i σ H2=>∃ (st:Option Int) (acc:List Stt) (zs:List V) (o10 o11:Option V) (n:Bool),
   σ = [some (.ref a),some (.ref b),some (.ref fl),some (.ref d1),some (.ref d2),some (.bl (endP (fe l) (fun b=>decide (b ∈ bnds l)) (B.take i))),some (.bl (endP (fe r) (fun b=>decide (b ∈ bnds r)) (B.take i))),
    some (.bl n),some (vO st),some (.ref sp),o10,o11] ∧ fw (endP (fe l) (fun b=>decide (b ∈ bnds l)) (B.take i)) (endP (fe r) (fun b=>decide (b ∈ bnds r)) (B.take i)) = n ∧
   Same H4 H2 ∧ H2 D = some (.lst (B.map V.int)) ∧ H2 sp = some (.lst zs) ∧ StsAt H2 zs acc ∧ Sweep fw (fe l) (fe r) (fun b=>decide (b ∈ bnds l)) (fun b=>decide (b ∈ bnds r)) (B.take i) st acc ∧ acc.length ≤ i)
   ⟨none,[],[],none,none,_,rfl,rfl,s9,hD9,hsp9,.nil,zgO _ _ _ _ _,Nat.le_refl _⟩ (by rintro i σ H2 _ ⟨_,_,_,_,_,_,_,_,_,h,_⟩; exact SqL.of h) ?_ ?_⟩
  ·intro J_ E_; rintro i x σ H2 hx ⟨st,acc,zs,o10,o11,o,rfl,ho,sm,hD2,hsp2,sz,S,hal⟩
   obtain ⟨bd,eb,rfl⟩:=zha hx
   have hi:i < B.length:=(List.getElem?_eq_some_iff.mp eb).1
   have lz:zs.length = acc.length:=Paired.length sz
   have low:∀ d ∈ B.take i,d < bd:=fun d hd=>by
    have h2:=inc
    rw [← List.take_append_drop i B] at h2
    have h3:=(List.pairwise_append.mp h2).2.2 d hd bd
    refine h3 ?_
    rw [List.drop_eq_getElem_cons hi,(List.getElem?_eq_some_iff.mp eb).2]
    exact List.mem_cons_self
   have e1:(!decide (V.bl (endP (fe l) (fun b=>decide (b ∈ bnds l)) (B.take i)) = V.bl (valV kv1 (Sum.inl bd)).isSome)) = endP (fe l) (fun b=>decide (b ∈ bnds l)) (B.take (i + 1)):=by
    rw [take_snoc eb,zfq,dB,in1]
    cases endP (fe l) (fun b=>decide (b ∈ bnds l)) (B.take i) <;> cases decide (bd ∈ bnds l) <;> rfl
   have e2:(!decide (V.bl (endP (fe r) (fun b=>decide (b ∈ bnds r)) (B.take i)) = V.bl (valV kv2 (Sum.inl bd)).isSome)) = endP (fe r) (fun b=>decide (b ∈ bnds r)) (B.take (i + 1)):=by
    rw [take_snoc eb,zfq,dB,in2]
    cases endP (fe r) (fun b=>decide (b ∈ bnds r)) (B.take i) <;> cases decide (bd ∈ bnds r) <;> rfl
   refine (exg _ rfl ((exg _ rfl ((exg _ rfl ⟨d1,exg _ rfl ⟨DGet.k (k:=Sum.inl bd) (sm _ _ hH2'),rfl,?_⟩⟩)))))
   show tSeq _ _ _ [some (.ref a),some (.ref b),some (.ref fl),some (.ref d1),some (.ref d2),some (.bl (!decide (V.bl (endP (fe l) (fun b=>decide (b ∈ bnds l)) (B.take i)) = V.bl (valV kv1 (Sum.inl bd)).isSome))),_,_,_,_,_,_] H2
   rw [e1]
   refine (exg _ rfl ((exg _ rfl ((exg _ rfl ⟨d2,exg _ rfl ⟨DGet.k (k:=Sum.inl bd) (sm _ _ hH4),rfl,?_⟩⟩)))))
   show tSeq _ _ _ [some (.ref a),some (.ref b),some (.ref fl),some (.ref d1),some (.ref d2),_,some (.bl (!decide (V.bl (endP (fe r) (fun b=>decide (b ∈ bnds r)) (B.take i)) = V.bl (valV kv2 (Sum.inl bd)).isSome))),_,_,_,_,_] H2
   rw [e2]
   refine (exg _ rfl ⟨rfl,exg _ rfl ((exg _ rfl ⟨_,exg _ rfl ⟨sm _ _ (s04 _ _ hfl),sm _ _ (s04 _ _ hcl),?_⟩⟩))⟩)
   have S1:=@zhu fw (fe l) (fe r) (fun b=>decide (b ∈ bnds l)) (fun b=>decide (b ∈ bnds r)) (B.take i) st acc bd S low
   have S2:=@zit fw (fe l) (fe r) (fun b=>decide (b ∈ bnds l)) (fun b=>decide (b ∈ bnds r)) (B.take i) st acc bd S low
   have S3:=@zkI fw (fe l) (fe r) (fun b=>decide (b ∈ bnds l)) (fun b=>decide (b ∈ bnds r)) (B.take i) st acc bd S low
   rw [← take_snoc eb] at S1 S2 S3
   rw [ho] at S1 S2 S3
   generalize hn:fw (endP (fe l) (fun b=>decide (b ∈ bnds l)) (B.take (i + 1))) (endP (fe r) (fun b=>decide (b ∈ bnds r)) (B.take (i + 1))) = n at S1 S2 S3 ⊢
   cases n with
   | false =>
    refine (exg _ rfl ((exg _ rfl (iteF (iteF ?_)))))
    cases o with
    | false=>exact ⟨_,rfl,_,rfl,iteF (iteF ⟨st,acc,zs,_,_,_,rfl,hn,sm,hD2,hsp2,sz,S1 rfl,by omega⟩)⟩
    | true =>
     refine (exg _ rfl ((exg _ rfl (iteT (exg _ rfl ((exg _ rfl (iteT ?_))))))))
     refine (exg _ rfl ⟨.inl ⟨rfl,_,SqL.of hsp2⟩,exg _ rfl ((exg _ rfl ⟨by show 2 ≤ sizeLine; decide,fun t ht=>?_⟩))⟩)
     have s3':Same H2 (upd H2 t (.tup [vO st,vO (some bd)])):=(Same.refl _).upd ht
     have nt:sp ≠ t:=zaf hsp2 ht
     refine ⟨sp,zs,exg _ rfl ⟨rfl,s3' _ _ hsp2,zal (by lia),?_⟩⟩
     refine ⟨st,acc ++ [(st,some bd)],zs ++ [.ref t],_,_,_,rfl,hn,(sm.trans s3').upd hsp,?_,zab,?_,S2 rfl rfl,by rw [List.length_append,List.length_singleton]; omega⟩
     ·rw [zad nDsp]; exact s3' _ _ hD2
     ·exact StsAt.wr (za3 (s3' _ _ hsp2)) (zak (R:=StAt (upd H2 t (.tup [vO st,vO (some bd)]))) ⟨t,rfl,zab⟩ (sz.same s3'))
   | true =>
    refine (exg _ rfl ((exg _ rfl (iteT ?_))))
    cases o with
    | false=>exact ⟨_,rfl,_,rfl,iteT ⟨_,rfl,_,rfl,_,rfl,iteF (iteF ⟨some bd,acc,zs,_,_,_,rfl,hn,sm,hD2,hsp2,sz,S3 rfl rfl,by omega⟩)⟩⟩
    | true=>exact ⟨_,rfl,_,rfl,iteF ⟨_,rfl,_,rfl,iteT ⟨_,rfl,_,rfl,iteF ⟨st,acc,zs,_,_,_,rfl,hn,sm,hD2,hsp2,sz,S1 rfl,by omega⟩⟩⟩⟩
  ·intro σ H2 h_
   refine zaa ?_; intro G_; obtain ⟨st,acc,zs,o10,o11,n,rfl,hn,sm,hD2,hsp2,sz,S,hal⟩:=h_
   rw [List.length_map] at hn S hal
   rw [List.take_length] at hn S
   have fin:=zjg canl canr inc (fun x hx=>(memB x).mpr (.inl hx)) (fun x hx=>(memB x).mpr (.inr hx)) S
   have can:=S.can
   rw [hn] at fin can
   have smH:=s04.trans sm
   have nsp:H sp = none:=s04.free hsp
   with_reducible refine zah ?_; intro E_ U_
   refine (exg _ rfl ((exg _ rfl ?_)))
   cases n with
   | false =>
    refine iteF (exg _ rfl (k sp H2 acc smH nsp ⟨zs,hsp2,sz⟩ ?_ (fun m=>?_) (by lia)))
    ·simpa using can
    ·have:=fin m
     simpa using this
   | true =>
    refine iteT (exg _ rfl ⟨.inl ⟨rfl,_,SqL.of hsp2⟩,exg _ rfl ⟨by show 2 ≤ sizeLine; decide,fun t ht=>?_⟩⟩)
    have s3':Same H2 (upd H2 t (.tup [vO st,vO none])):=(Same.refl _).upd ht
    have lz:zs.length = acc.length:=Paired.length sz
    refine ⟨sp,zs,exg _ rfl ⟨rfl,s3' _ _ hsp2,zal (by lia),exg _ rfl ?_⟩⟩
    refine k sp _ (acc ++ [(st,none)]) (s04.trans ((sm.trans s3').upd hsp)) nsp ⟨_,zab,StsAt.wr (za3 (s3' _ _ hsp2)) (zak (R:=StAt (upd H2 t (.tup [vO st,vO none]))) ⟨t,rfl,zab⟩ (sz.same s3'))⟩ ?_ (fun m=>?_) (by rw [List.length_append,List.length_singleton]; lia)
    ·simpa using can
    ·have:=fin m
     simpa using this
end
end Prf
namespace L2
open PySem Wr
def zkN (st:Stmt) : Expr:=match za8 st with | [.Return (some (.Call _ es _ _)) _]=>es.getLastD (.Constant .none 0 ⟨0,0,0,0⟩) | _=>.Constant .none 0 ⟨0,0,0,0⟩
def zgU (st:Stmt) : Pos:=match zkN st with | .Lambda _ _ _ p=>p | _=>⟨0,0,0,0⟩
def zbA (st:Stmt) : Arguments:=match zkN st with | .Lambda a _ _ _=>a | _=>⟨[],[],none,[],[],none,[]⟩
def zbB (st:Stmt) : Expr:=match zkN st with | .Lambda _ b _ _=>b | _=>.Constant .none 0 ⟨0,0,0,0⟩
def za9 (st:Stmt) : Scope:=match zkN st with | .Lambda _ _ s _=>s | _=>zae st
end L2
namespace Prf
open PySem L2 Wr
section
variable {P:Program} {w:World} {K:PySem.W.Frag} {mg:Str → Option Value} {base:Heap}
def zmT (fw:Bool → Bool → Bool) (t:LSite) (Ls:List LSite) : Sp:=fun vs H Q _=>∃ (a b:Addr) (l r:List Stt) (g:List Int),vs = [.ref a,.ref b] ∧ t.Ok H ∧ SpanAt H a l ∧ SpanAt H b r ∧ Can l ∧ Can r ∧ g.length < 64 ∧
 (∀ x ∈ bnds l,x ∈ g) ∧ (∀ x ∈ bnds r,x ∈ g) ∧ l.length ≤ 400 ∧ r.length ≤ 400 ∧
 ∀ (p:Addr) (H':Hp) (zs:List Stt),Stay Ls H H' → H p = none → SpanAt H' p zs → Can zs → (∀ m,zag m zs = fw (zag m l) (zag m r)) → zs.length ≤ 100 → Q (.ref p) H'
def zis (t:LSite) (Ls:List LSite) : Sp:=zmT (fun x y=>x && y) t Ls
theorem zna:FnScope ["one","other"] ["one","other"] (zae zaY):=⟨rfl,rfl,rfl,by decide +kernel,rfl,by decide +kernel,by decide +kernel⟩
noncomputable def zdx (S:Site) : LSite:=⟨S,"met" ++ ".<locals>." ++ "<lambda>", zgU zaY⟩
theorem zns {f c Pt:Addr} {fd:FuncData} {Ls:List LSite} (F:Fun K "met" "met" zaY f fd) (hcode:fd.code = .ref c) (hS:SiteOk base mg ⟨c,Pt⟩) (F_combined:FnP P w K mg base 2 "combined" ["one","other","wanted"] (zbK P w K mg base))
  (one:∀ u ∈ Ls,u.S.P = Pt → u = zdx ⟨c,Pt⟩) : FnOk P w K mg base CX0 3 f fd ["one","other"] (zis (zdx ⟨c,Pt⟩) Ls):=by
 refine F.okC hcode zna (fun vs H Q E h=>?_) (fun A outer s H vs Q E hr h=>?_)
 ·refine zaa ?_; intro G_; obtain ⟨_,_,_,_,_,rfl,_⟩:=h
  rfl
 ·refine zaa ?_; intro G_; obtain ⟨a,b,l,r,g,rfl,hlam,hl,hr',canl,canr,g64,bl,br,l400,r400,k⟩:=h
  refine ⟨_,(zaj (zas (e_fn F_combined hr (ac (e_v 0) (ac (e_v 1) (a1l (znq (S:=⟨c,Pt⟩) hS))))))),?_⟩
  have lamF:∀ (fl c':Addr) (pm ctv:Value),FnOk P w K mg base CX0 1 fl (zbI ("met" ++ ".<locals>." ++ "<lambda>") (zbA zaY) (zbB zaY) (za9 zaY) pm c' ctv) ["in_one","in_other"]
    (spFw (fun x y=>x && y) fl c' (zbI ("met" ++ ".<locals>." ++ "<lambda>") (zbA zaY) (zbB zaY) (za9 zaY) pm c' ctv) ("met" ++ ".<locals>." ++ "<lambda>")):=fun fl c' pm ctv=>by
   refine zlo (N:=["in_one","in_other"]) (ps:=["in_one","in_other"]) ⟨rfl,rfl,rfl,by decide +kernel,rfl,by decide +kernel,by decide +kernel⟩ (fun vs H Q E h=>?_) (fun vs H Q E h=>?_) (fun A outer s H vs Q E hr h=>?_)
   ·refine zaa ?_; intro G_; obtain ⟨_,_,rfl,_⟩:=h
    rfl
   ·refine zaa ?_; intro G_; obtain ⟨_,_,_,h1,h2,_⟩:=h
    exact ⟨h1,h2⟩
   ·refine zaa ?_; intro G_; obtain ⟨x,y,rfl,_,_,k⟩:=h
    refine ⟨_,(zgF (e_v 0) (zd6 (e_v 1))).h,?_⟩
    cases x <;> exact (exg _ rfl ((exg _ rfl (by first | exact iteF k | exact iteT (exg _ rfl k)))))
  have bnd:∀ (pm c' ctv),Binds K (zbI ("met" ++ ".<locals>." ++ "<lambda>") (zbA zaY) (zbB zaY) (za9 zaY) pm c' ctv) ["in_one","in_other"] []:=fun pm c' ctv=>.all (fun us hl=>match us,hl with | [_,_],_=>rfl)
  rcases hlam with hP | ⟨c',hP,hc'⟩
  ·refine (exg _ rfl ((exg _ rfl (.inl ⟨hP,fun fl c' pm ctv hf hc ne=>?_⟩))))
   have st:Stay Ls H (upd (upd (upd H Pt (.tbl (triple (zgU zaY) c'))) c' (.ext (IsCd c' ("met" ++ ".<locals>." ++ "<lambda>")))) fl (.ext (IsFn fl (zbI ("met" ++ ".<locals>." ++ "<lambda>") (zbA zaY) (zbB zaY) (za9 zaY) pm c' ctv)))):=Stay.made (t:=zdx ⟨c,Pt⟩) one hP hf hc ne
   refine ⟨a,b,fl,c',_,_,fun x y=>x && y,l,r,g,rfl,lamF fl c' pm ctv,bnd _ _ _,zab,by rw [zad ne.symm,zab]; rfl,hl.stay st,hr'.stay st,canl,canr,g64,bl,br,l400,r400,fun p H' zs sm hp hz cz iz lz=>?_⟩
   exact k p H' zs (st.trans sm.stay) (st.free hp) hz cz iz lz
  ·refine (exg _ rfl ((exg _ rfl (.inr ⟨c',hP,hc',fun fl pm ctv hf=>?_⟩))))
   have sm0:Same H (upd H fl (.ext (IsFn fl (zbI ("met" ++ ".<locals>." ++ "<lambda>") (zbA zaY) (zbB zaY) (za9 zaY) pm c' ctv)))):=(Same.refl H).upd hf
   refine ⟨a,b,fl,c',_,_,fun x y=>x && y,l,r,g,rfl,lamF fl c' pm ctv,bnd _ _ _,zab,sm0 _ _ hc',hl.same sm0,hr'.same sm0,canl,canr,g64,bl,br,l400,r400,fun p H' zs sm hp hz cz iz lz=>?_⟩
   exact k p H' zs (sm0.trans sm).stay (sm0.free hp) hz cz iz lz
def zfj (t:LSite) (Ls:List LSite) : Sp:=zmT (fun x y=>x && !y) t Ls
theorem zkw:FnScope ["one","other"] ["one","other"] (zae zar):=⟨rfl,rfl,rfl,by decide +kernel,rfl,by decide +kernel,by decide +kernel⟩
noncomputable def zcf (S:Site) : LSite:=⟨S,"taken" ++ ".<locals>." ++ "<lambda>", zgU zar⟩
theorem zkJ {f c Pt:Addr} {fd:FuncData} {Ls:List LSite} (F:Fun K "taken" "taken" zar f fd) (hcode:fd.code = .ref c) (hS:SiteOk base mg ⟨c,Pt⟩) (F_combined:FnP P w K mg base 2 "combined" ["one","other","wanted"] (zbK P w K mg base))
  (one:∀ u ∈ Ls,u.S.P = Pt → u = zcf ⟨c,Pt⟩) : FnOk P w K mg base CX0 3 f fd ["one","other"] (zfj (zcf ⟨c,Pt⟩) Ls):=by
 refine F.okC hcode zkw (fun vs H Q E h=>?_) (fun A outer s H vs Q E hr h=>?_)
 ·refine zaa ?_; intro G_; obtain ⟨_,_,_,_,_,rfl,_⟩:=h
  rfl
 ·refine zaa ?_; intro G_; obtain ⟨a,b,l,r,g,rfl,hlam,hl,hr',canl,canr,g64,bl,br,l400,r400,k⟩:=h
  refine ⟨_,(zaj (zas (e_fn F_combined hr (ac (e_v 0) (ac (e_v 1) (a1l (znq (S:=⟨c,Pt⟩) hS))))))),?_⟩
  have lamF:∀ (fl c':Addr) (pm ctv:Value),FnOk P w K mg base CX0 1 fl (zbI ("taken" ++ ".<locals>." ++ "<lambda>") (zbA zar) (zbB zar) (za9 zar) pm c' ctv) ["in_one","in_other"]
    (spFw (fun x y=>x && !y) fl c' (zbI ("taken" ++ ".<locals>." ++ "<lambda>") (zbA zar) (zbB zar) (za9 zar) pm c' ctv) ("taken" ++ ".<locals>." ++ "<lambda>")):=fun fl c' pm ctv=>by
   refine zlo (N:=["in_one","in_other"]) (ps:=["in_one","in_other"]) ⟨rfl,rfl,rfl,by decide +kernel,rfl,by decide +kernel,by decide +kernel⟩ (fun vs H Q E h=>?_) (fun vs H Q E h=>?_) (fun A outer s H vs Q E hr h=>?_)
   ·refine zaa ?_; intro G_; obtain ⟨_,_,rfl,_⟩:=h
    rfl
   ·refine zaa ?_; intro G_; obtain ⟨_,_,_,h1,h2,_⟩:=h
    exact ⟨h1,h2⟩
   ·refine zaa ?_; intro G_; obtain ⟨x,y,rfl,_,_,k⟩:=h
    refine ⟨_,(zgF (e_v 0) (zd6 (zmf (e_v 1)))).h,?_⟩
    cases x <;> cases y <;> exact (exg _ rfl ((exg _ rfl (by first | exact iteF k | exact iteT (exg _ rfl ((exg _ rfl k)))))))
  have bnd:∀ (pm c' ctv),Binds K (zbI ("taken" ++ ".<locals>." ++ "<lambda>") (zbA zar) (zbB zar) (za9 zar) pm c' ctv) ["in_one","in_other"] []:=fun pm c' ctv=>.all (fun us hl=>match us,hl with | [_,_],_=>rfl)
  rcases hlam with hP | ⟨c',hP,hc'⟩
  ·refine (exg _ rfl ((exg _ rfl (.inl ⟨hP,fun fl c' pm ctv hf hc ne=>?_⟩))))
   have st:Stay Ls H (upd (upd (upd H Pt (.tbl (triple (zgU zar) c'))) c' (.ext (IsCd c' ("taken" ++ ".<locals>." ++ "<lambda>")))) fl (.ext (IsFn fl (zbI ("taken" ++ ".<locals>." ++ "<lambda>") (zbA zar) (zbB zar) (za9 zar) pm c' ctv)))):=Stay.made (t:=zcf ⟨c,Pt⟩) one hP hf hc ne
   refine ⟨a,b,fl,c',_,_,fun x y=>x && !y,l,r,g,rfl,lamF fl c' pm ctv,bnd _ _ _,zab,by rw [zad ne.symm,zab]; rfl,hl.stay st,hr'.stay st,canl,canr,g64,bl,br,l400,r400,fun p H' zs sm hp hz cz iz lz=>?_⟩
   exact k p H' zs (st.trans sm.stay) (st.free hp) hz cz iz lz
  ·refine (exg _ rfl ((exg _ rfl (.inr ⟨c',hP,hc',fun fl pm ctv hf=>?_⟩))))
   have sm0:Same H (upd H fl (.ext (IsFn fl (zbI ("taken" ++ ".<locals>." ++ "<lambda>") (zbA zar) (zbB zar) (za9 zar) pm c' ctv)))):=(Same.refl H).upd hf
   refine ⟨a,b,fl,c',_,_,fun x y=>x && !y,l,r,g,rfl,lamF fl c' pm ctv,bnd _ _ _,zab,sm0 _ _ hc',hl.same sm0,hr'.same sm0,canl,canr,g64,bl,br,l400,r400,fun p H' zs sm hp hz cz iz lz=>?_⟩
   exact k p H' zs (sm0.trans sm).stay (sm0.free hp) hz cz iz lz
end
section
variable {P:Program} {w:World} {K:PySem.W.Frag} {mg:Str → Option Value} {base:Heap}
theorem za4:FnScope ["_law_condition_here","_law_row_here","_law_word","_law_here","_law_there"] ["_law_condition_here","_law_row_here"] (zae zbX):=⟨rfl,rfl,rfl,by decide +kernel,rfl,by decide +kernel,by decide +kernel⟩
def zds (n:Nat) : Sp:=fun vs H Q _=>∃ (v rv:V) (c:Cond) (row:List Int),vs = [v,rv] ∧ CondAt H v c ∧ RowAt H rv row ∧ c.ok row.length ∧ c.deep < n ∧ ∀ H',Same H H' → Q (.bl (c.sem row)) H'
theorem zcI {f:Addr} {fd:FuncData} (F:Fun K "_law_meets" "_law_meets" zbX f fd) (hm:mg "_law_meets" = some (.ref f)) (hk:PySem.W.keepIn K (.ref f) = true) (hb:Binds K fd ["_law_condition_here","_law_row_here"] []) : ∀ n,FnOk P w K mg base CX0 n f fd ["_law_condition_here","_law_row_here"] (zds n)
 | 0=>FnOk.none (by rintro _ _ _ _ ⟨_,_,_,_,_,_,_,_,h,_⟩; exact absurd h (Nat.not_lt_zero _))
 | n + 1 => by
  have FF:FnP P w K mg base n "_law_meets" ["_law_condition_here","_law_row_here"] (zds n):=⟨f,fd,zcI F hm hk hb n,hm,hk,hb⟩
  refine F.okJL za4 (fun vs H Q E h=>?_) (fun cdv A outer s H vs Q E hr h=>?_)
  ·refine zaa ?_; intro G_; obtain ⟨_,_,_,_,rfl,_⟩:=h
   rfl
  ·intro X_ D_; refine zaa ?_; intro G_; obtain ⟨v,rv,c,row,rfl,hc,⟨tr,rfl,hrow⟩,ok,dp,k⟩:=h
   refine ⟨_,(zac (zam 2 za4.nd (e_ix zaw (e_v 0) e_i))
   (zac (s_if (zaZ o_eq (e_v 2) e_s) (zaj (zas (zgF (e_fn FF hr (ac (e_ix zaw (e_v 0) e_i) (a1 (e_v 1))) (Nat.le_refl _)) (zd6 (e_fn FF hr (ac (e_ix zaw (e_v 0) e_i) (a1 (e_v 1))) (Nat.le_refl _)))))) zaW)
   (zac (s_if (zaZ o_eq (e_v 2) e_s) (zaj (zas (e_or (e_fn FF hr (ac (e_ix zaw (e_v 0) e_i) (a1 (e_v 1))) (Nat.le_refl _)) (zd6 (e_fn FF hr (ac (e_ix zaw (e_v 0) e_i) (a1 (e_v 1))) (Nat.le_refl _)))))) zaW)
   (zac (s_if (zaZ o_eq (e_v 2) e_s) (zaj (zas (zmf (e_fn FF hr (ac (e_ix zaw (e_v 0) e_i) (a1 (e_v 1))) (Nat.le_refl _))))) zaW)
   (zac (zam 3 za4.nd (e_ix zaw (e_v 1) (e_ix zaw (e_v 0) e_i)))
   (zac (zam 4 za4.nd (e_ix zaw (e_v 0) e_i))
   (zac (s_if (t_in (e_v 2) (za5 (ac e_s (a1 e_s)))) (zaj (zam 4 za4.nd (e_ix zaw (e_v 1) (e_ix zaw (e_v 0) e_i)))) zaW)
   (zac (s_if (t_in (e_v 2) (za5 (ac e_s (a1 e_s)))) (zaj (zas (zdh o_eq (e_v 3) (e_v 4)))) zaW)
   (zaj (zas (zdh o_lt (e_v 3) (e_v 4)))))))))))),?_⟩
   cases c with
   | same i j =>
    refine zaa ?_; intro G_; obtain ⟨t,rfl,ht⟩:=hc
    with_reducible refine zah ?_; intro E_ U_
    refine (exg _ rfl ⟨t,_,0,exg _ rfl ⟨rfl,SqT.of ht,rfl,?_⟩⟩)
    with_reducible refine zai ?_; intro E_ U_ S_
    refine (exg _ rfl ⟨rfl,exg _ rfl (zaJ (by decide +kernel) (exg _ rfl ⟨rfl,exg _ rfl (zaJ (by decide +kernel) (exg _ rfl ⟨rfl,exg _ rfl (zaJ (by decide +kernel) ?_)⟩))⟩))⟩)
    refine (exg _ rfl ((exg _ rfl ⟨t,_,1,exg _ rfl ⟨rfl,SqT.of ht,rfl,tr,_,_,exg _ rfl ⟨rfl,SqT.of hrow,zby ok.1,?_⟩⟩⟩)))
    with_reducible refine zai ?_; intro E_ U_ S_
    refine (exg _ rfl ⟨t,_,2,exg _ rfl ⟨rfl,SqT.of ht,rfl,?_⟩⟩)
    with_reducible refine zai ?_; intro E_ U_ S_
    refine (exg _ rfl ⟨by show 2 ≤ sizeLine; decide,fun u hu=>?_⟩)
    have s1:Same H (upd H u (.tup [.str "same", .str "below"])):=(Same.refl H).upd hu
    refine ⟨u,exg _ rfl ⟨.inr (SqT.of zab),rfl,rfl,exg _ rfl ?_⟩⟩
    rw [show inV (.str "same") [.str "same", .str "below"] = true by decide +kernel]
    generalize upd H u (.tup [.str "same", .str "below"]) = H1 at s1 ⊢
    refine iteT (exg _ rfl ((exg _ rfl ⟨t,_,2,exg _ rfl ⟨rfl,SqT.of (s1 _ _ ht),rfl,tr,_,_,exg _ rfl ⟨rfl,SqT.of (s1 _ _ hrow),zby ok.2,?_⟩⟩⟩)))
    with_reducible refine zai ?_; intro E_ U_ S_
    refine (exg _ rfl ⟨by show 2 ≤ sizeLine; decide,fun u2 hu2=>?_⟩)
    have s2:Same H (upd H1 u2 (.tup [.str "same", .str "is"])):=s1.trans ((Same.refl H1).upd hu2)
    refine ⟨u2,exg _ rfl ⟨.inr (SqT.of zab),rfl,rfl,exg _ rfl ?_⟩⟩
    rw [show inV (.str "same") [.str "same", .str "is"] = true by decide +kernel]
    refine iteT (exg _ rfl ((exg _ rfl ⟨rfl,?_⟩)))
    rw [dI,zaU ok.1,zaU ok.2]
    exact k _ s2
   | isv i m =>
    refine zaa ?_; intro G_; obtain ⟨t,rfl,ht⟩:=hc
    with_reducible refine zah ?_; intro E_ U_
    refine (exg _ rfl ⟨t,_,0,exg _ rfl ⟨rfl,SqT.of ht,rfl,?_⟩⟩)
    with_reducible refine zai ?_; intro E_ U_ S_
    refine (exg _ rfl ⟨rfl,exg _ rfl (zaJ (by decide +kernel) (exg _ rfl ⟨rfl,exg _ rfl (zaJ (by decide +kernel) (exg _ rfl ⟨rfl,exg _ rfl (zaJ (by decide +kernel) ?_)⟩))⟩))⟩)
    refine (exg _ rfl ((exg _ rfl ⟨t,_,1,exg _ rfl ⟨rfl,SqT.of ht,rfl,tr,_,_,exg _ rfl ⟨rfl,SqT.of hrow,zby (show i < row.length from ok),?_⟩⟩⟩)))
    with_reducible refine zai ?_; intro E_ U_ S_
    refine (exg _ rfl ⟨t,_,2,exg _ rfl ⟨rfl,SqT.of ht,rfl,?_⟩⟩)
    with_reducible refine zai ?_; intro E_ U_ S_
    refine (exg _ rfl ⟨by show 2 ≤ sizeLine; decide,fun u hu=>?_⟩)
    have s1:Same H (upd H u (.tup [.str "same", .str "below"])):=(Same.refl H).upd hu
    refine ⟨u,exg _ rfl ⟨.inr (SqT.of zab),rfl,rfl,exg _ rfl ?_⟩⟩
    rw [show inV (.str "is") [.str "same", .str "below"] = false by decide +kernel]
    generalize upd H u (.tup [.str "same", .str "below"]) = H1 at s1 ⊢
    refine iteF (exg _ rfl ⟨by show 2 ≤ sizeLine; decide,fun u2 hu2=>?_⟩)
    have s2:Same H (upd H1 u2 (.tup [.str "same", .str "is"])):=s1.trans ((Same.refl H1).upd hu2)
    refine ⟨u2,exg _ rfl ⟨.inr (SqT.of zab),rfl,rfl,exg _ rfl ?_⟩⟩
    rw [show inV (.str "is") [.str "same", .str "is"] = true by decide +kernel]
    refine iteT (exg _ rfl ((exg _ rfl ⟨rfl,?_⟩)))
    rw [dI,zaU (show i < row.length from ok)]
    exact k _ s2
   | less i j =>
    refine zaa ?_; intro G_; obtain ⟨t,rfl,ht⟩:=hc
    with_reducible refine zah ?_; intro E_ U_
    refine (exg _ rfl ⟨t,_,0,exg _ rfl ⟨rfl,SqT.of ht,rfl,?_⟩⟩)
    with_reducible refine zai ?_; intro E_ U_ S_
    refine (exg _ rfl ⟨rfl,exg _ rfl (zaJ (by decide +kernel) (exg _ rfl ⟨rfl,exg _ rfl (zaJ (by decide +kernel) (exg _ rfl ⟨rfl,exg _ rfl (zaJ (by decide +kernel) ?_)⟩))⟩))⟩)
    refine (exg _ rfl ((exg _ rfl ⟨t,_,1,exg _ rfl ⟨rfl,SqT.of ht,rfl,tr,_,_,exg _ rfl ⟨rfl,SqT.of hrow,zby ok.1,?_⟩⟩⟩)))
    with_reducible refine zai ?_; intro E_ U_ S_
    refine (exg _ rfl ⟨t,_,2,exg _ rfl ⟨rfl,SqT.of ht,rfl,?_⟩⟩)
    with_reducible refine zai ?_; intro E_ U_ S_
    refine (exg _ rfl ⟨by show 2 ≤ sizeLine; decide,fun u hu=>?_⟩)
    have s1:Same H (upd H u (.tup [.str "same", .str "below"])):=(Same.refl H).upd hu
    refine ⟨u,exg _ rfl ⟨.inr (SqT.of zab),rfl,rfl,exg _ rfl ?_⟩⟩
    rw [show inV (.str "below") [.str "same", .str "below"] = true by decide +kernel]
    generalize upd H u (.tup [.str "same", .str "below"]) = H1 at s1 ⊢
    refine iteT (exg _ rfl ((exg _ rfl ⟨t,_,2,exg _ rfl ⟨rfl,SqT.of (s1 _ _ ht),rfl,tr,_,_,exg _ rfl ⟨rfl,SqT.of (s1 _ _ hrow),zby ok.2,?_⟩⟩⟩)))
    with_reducible refine zai ?_; intro E_ U_ S_
    refine (exg _ rfl ⟨by show 2 ≤ sizeLine; decide,fun u2 hu2=>?_⟩)
    have s2:Same H (upd H1 u2 (.tup [.str "same", .str "is"])):=s1.trans ((Same.refl H1).upd hu2)
    refine ⟨u2,exg _ rfl ⟨.inr (SqT.of zab),rfl,rfl,exg _ rfl ?_⟩⟩
    rw [show inV (.str "below") [.str "same", .str "is"] = false by decide +kernel]
    refine iteF (exg _ rfl ((exg _ rfl ⟨_,exg _ rfl ⟨rfl,?_⟩⟩)))
    rw [zaU ok.1,zaU ok.2]
    exact k _ s2
   | undr i m =>
    refine zaa ?_; intro G_; obtain ⟨t,rfl,ht⟩:=hc
    with_reducible refine zah ?_; intro E_ U_
    refine (exg _ rfl ⟨t,_,0,exg _ rfl ⟨rfl,SqT.of ht,rfl,?_⟩⟩)
    with_reducible refine zai ?_; intro E_ U_ S_
    refine (exg _ rfl ⟨rfl,exg _ rfl (zaJ (by decide +kernel) (exg _ rfl ⟨rfl,exg _ rfl (zaJ (by decide +kernel) (exg _ rfl ⟨rfl,exg _ rfl (zaJ (by decide +kernel) ?_)⟩))⟩))⟩)
    refine (exg _ rfl ((exg _ rfl ⟨t,_,1,exg _ rfl ⟨rfl,SqT.of ht,rfl,tr,_,_,exg _ rfl ⟨rfl,SqT.of hrow,zby (show i < row.length from ok),?_⟩⟩⟩)))
    with_reducible refine zai ?_; intro E_ U_ S_
    refine (exg _ rfl ⟨t,_,2,exg _ rfl ⟨rfl,SqT.of ht,rfl,?_⟩⟩)
    with_reducible refine zai ?_; intro E_ U_ S_
    refine (exg _ rfl ⟨by show 2 ≤ sizeLine; decide,fun u hu=>?_⟩)
    have s1:Same H (upd H u (.tup [.str "same", .str "below"])):=(Same.refl H).upd hu
    refine ⟨u,exg _ rfl ⟨.inr (SqT.of zab),rfl,rfl,exg _ rfl ?_⟩⟩
    rw [show inV (.str "under") [.str "same", .str "below"] = false by decide +kernel]
    generalize upd H u (.tup [.str "same", .str "below"]) = H1 at s1 ⊢
    refine iteF (exg _ rfl ⟨by show 2 ≤ sizeLine; decide,fun u2 hu2=>?_⟩)
    have s2:Same H (upd H1 u2 (.tup [.str "same", .str "is"])):=s1.trans ((Same.refl H1).upd hu2)
    refine ⟨u2,exg _ rfl ⟨.inr (SqT.of zab),rfl,rfl,exg _ rfl ?_⟩⟩
    rw [show inV (.str "under") [.str "same", .str "is"] = false by decide +kernel]
    refine iteF (exg _ rfl ((exg _ rfl ⟨_,exg _ rfl ⟨rfl,?_⟩⟩)))
    rw [zaU (show i < row.length from ok)]
    exact k _ s2
   | both a b =>
    refine zaa ?_; intro G_; obtain ⟨t,va,vb,rfl,ht,ha,hb'⟩:=hc
    have dp':max a.deep b.deep + 1 < n + 1:=dp
    have k':∀ H',Same H H' → Q (.bl (a.sem row && b.sem row)) H':=k
    with_reducible refine zah ?_; intro E_ U_
    refine (exg _ rfl ⟨t,_,0,exg _ rfl ⟨rfl,SqT.of ht,rfl,?_⟩⟩)
    with_reducible refine zai ?_; intro E_ U_ S_
    refine (exg _ rfl ⟨rfl,exg _ rfl (zeM ?_)⟩)
    refine (exg _ rfl ⟨t,_,1,exg _ rfl ⟨rfl,SqT.of ht,rfl,exg _ rfl ⟨va,_,a,row,rfl,ha,⟨tr,rfl,hrow⟩,ok.1,by lia,fun H1 s1=>(exg _ rfl ?_)⟩⟩⟩)
    cases e:a.sem row with
    | false =>
     rw [e] at k'
     exact iteF (k' _ s1)
    | true =>
     rw [e,Bool.true_and] at k'
     exact iteT (exg _ rfl ⟨t,_,2,exg _ rfl ⟨rfl,SqT.of (s1 _ _ ht),rfl,exg _ rfl ⟨vb,_,b,row,rfl,CondAt.same s1 hb',⟨tr,rfl,s1 _ _ hrow⟩,ok.2,by lia,fun H2 s2=>k' _ (s1.trans s2)⟩⟩⟩)
   | either a b =>
    refine zaa ?_; intro G_; obtain ⟨t,va,vb,rfl,ht,ha,hb'⟩:=hc
    have dp':max a.deep b.deep + 1 < n + 1:=dp
    have k':∀ H',Same H H' → Q (.bl (a.sem row || b.sem row)) H':=k
    with_reducible refine zah ?_; intro E_ U_
    refine (exg _ rfl ⟨t,_,0,exg _ rfl ⟨rfl,SqT.of ht,rfl,?_⟩⟩)
    with_reducible refine zai ?_; intro E_ U_ S_
    refine (exg _ rfl ⟨rfl,exg _ rfl (zaJ (by decide +kernel) (exg _ rfl ⟨rfl,exg _ rfl (zeM ?_)⟩))⟩)
    refine (exg _ rfl ⟨t,_,1,exg _ rfl ⟨rfl,SqT.of ht,rfl,exg _ rfl ⟨va,_,a,row,rfl,ha,⟨tr,rfl,hrow⟩,ok.1,by lia,fun H1 s1=>(exg _ rfl ?_)⟩⟩⟩)
    cases e:a.sem row with
    | true =>
     rw [e,Bool.true_or] at k'
     exact iteT (k' _ s1)
    | false =>
     rw [e,Bool.false_or] at k'
     exact iteF (exg _ rfl ⟨t,_,2,exg _ rfl ⟨rfl,SqT.of (s1 _ _ ht),rfl,exg _ rfl ⟨vb,_,b,row,rfl,CondAt.same s1 hb',⟨tr,rfl,s1 _ _ hrow⟩,ok.2,by lia,fun H2 s2=>k' _ (s1.trans s2)⟩⟩⟩)
   | neg a =>
    refine zaa ?_; intro G_; obtain ⟨t,va,rfl,ht,ha⟩:=hc
    have dp':a.deep + 1 < n + 1:=dp
    with_reducible refine zah ?_; intro E_ U_
    refine (exg _ rfl ⟨t,_,0,exg _ rfl ⟨rfl,SqT.of ht,rfl,?_⟩⟩)
    with_reducible refine zai ?_; intro E_ U_ S_
    refine (exg _ rfl ⟨rfl,exg _ rfl (zaJ (by decide +kernel) (exg _ rfl ⟨rfl,exg _ rfl (zaJ (by decide +kernel) (exg _ rfl ⟨rfl,exg _ rfl (zeM ?_)⟩))⟩))⟩)
    exact (exg _ rfl ⟨t,_,1,exg _ rfl ⟨rfl,SqT.of ht,rfl,exg _ rfl ⟨va,_,a,row,rfl,ha,⟨tr,rfl,hrow⟩,ok,by lia,fun H1 s1=>(exg _ rfl (k _ s1))⟩⟩⟩)
end
def colF (d n k:Int) : Nat:=(mixF n k % (zaz d:Int)).toNat
theorem zjU (d n k:Int) : mixF n k % (zaz d:Int) = (colF d n k:Int):=by
 have:=zcE d
 have:=Int.emod_nonneg (mixF n k) (show (zaz d:Int) ≠ 0 by lia)
 unfold colF
 lia
theorem zjG (d n k:Int) : colF d n k < zaz d:=by
 have:=zcE d
 have h1:=Int.emod_nonneg (mixF n k) (show (zaz d:Int) ≠ 0 by lia)
 have h2:=Int.emod_lt_of_pos (mixF n k) (show (0:Int) < (zaz d:Int) by lia)
 unfold colF
 lia
def valF (d n:Int) : Int:=(numF d).getD (mixF n 82 % 3).toNat 0 - mixF n 83 % 5 / 4
def zkq (d n:Int) : Nat → Cond
 | 0=>.same (colF d n 80) (colF d n 81)
 | 1=>.isv (colF d n 80) (valF d n)
 | 2=>.less (colF d n 80) (colF d n 81)
 | _=>.undr (colF d n 80) (valF d n)
def zef (d n:Int) : Cond:=zkq d n (mixF n 85 % 4).toNat
def zbf (d n:Int) : Nat → Cond
 | 0=>zef d n
 | k + 1=>if mixF n 84 % 7 = 0 then .both (zbf d (zbM n 1) k) (zbf d (zbM n 2) k) else if mixF n 84 % 7 = 1 then .either (zbf d (zbM n 1) k) (zbf d (zbM n 2) k)
  else if mixF n 84 % 7 = 2 then .neg (zbf d (zbM n 1) k) else zef d n
theorem zhj (d n:Int) : (zef d n).ok (zaz d):=by
 have h1:=zjG d n 80
 have h2:=zjG d n 81
 unfold zef zkq
 split
 ·exact ⟨h1,h2⟩
 ·exact h1
 ·exact ⟨h1,h2⟩
 ·exact h1
theorem zeu (d n:Int) : (zef d n).deep = 0:=by
 unfold zef zkq
 split <;> rfl
theorem zch (d:Int) : ∀ (k:Nat) (n:Int),(zbf d n k).ok (zaz d)
 | 0,n=>zhj d n
 | k + 1, n => by
  unfold zbf
  split
  ·exact ⟨zch d k _,zch d k _⟩
  ·split
   ·exact ⟨zch d k _,zch d k _⟩
   ·split
    ·exact zch d k _
    ·exact zhj d n
theorem zc4 (d:Int) : ∀ (k:Nat) (n:Int),(zbf d n k).deep ≤ k
 | 0,n=>by rw [show zbf d n 0 = zef d n from rfl,zeu]; exact Nat.le_refl _
 | k + 1, n => by
  have h1:=zc4 d k (zbM n 1)
  have h2:=zc4 d k (zbM n 2)
  unfold zbf
  split
  ·show max _ _ + 1 ≤ _; lia
  ·split
   ·show max _ _ + 1 ≤ _; lia
   ·split
    ·show _ + 1 ≤ _; lia
    ·rw [zeu]; lia
section
variable {P:Program} {w:World} {K:PySem.W.Frag} {mg:Str → Option Value} {base:Heap}
def zjB (n:Nat) : Sp:=fun vs H Q _=>∃ (d c:Int),vs = [.int d,.int c,.int (n:Int)] ∧ ∀ (t:Addr) (H':Hp),Same H H' → H t = none → CondAt H' (.ref t) (zbf d c n) → Q (.ref t) H'
def ziS:Nat → Sp
 | 0=>fun _ _ _ _=>False
 | n + 1=>zjB n
theorem zbE:FnScope ["_law_drawn","_law_number","_law_deep","_law_columns","_law_i","_law_j","_law_value","_law_way","_law_one"] ["_law_drawn","_law_number","_law_deep"] (zae za6):=⟨rfl,rfl,rfl,by decide +kernel,rfl,by decide +kernel,by decide +kernel⟩
theorem zbD {f:Addr} {fd:FuncData} (F:Fun K "_law_condition" "_law_condition" za6 f fd) (hm:mg "_law_condition" = some (.ref f)) (hk:PySem.W.keepIn K (.ref f) = true) (hb:Binds K fd ["_law_drawn","_law_number","_law_deep"] [])
  (FM:FnP P w K mg base 1 "_law_mix" ["_law_cell","_law_j"] zdO) (FP:FnP P w K mg base 1 "_law_part" ["_law_cell","_law_k"] ziV) (FN:FnP P w K mg base 2 "_law_numbers" ["_law_drawn"] zaM) :
  ∀ n,FnOk P w K mg base CX0 (n + 2) f fd ["_law_drawn","_law_number","_law_deep"] (ziS n)
 | 0=>FnOk.none fun _ _ _ _ h=>h
 | n + 1 => by
  have FF:FnP P w K mg base (n + 2) "_law_condition" ["_law_drawn","_law_number","_law_deep"] (ziS n):=⟨f,fd,zbD F hm hk hb FM FP FN n,hm,hk,hb⟩
  refine F.okJL zbE (fun vs H Q E h=>?_) (fun cdv A outer s H vs Q E hr h=>?_)
  ·refine zaa ?_; intro G_; obtain ⟨_,_,rfl,_⟩:=h
   rfl
  ·intro X_ D_; refine zaa ?_; intro G_; obtain ⟨d,c,rfl,k⟩:=h
   have nd:=zbE.nd
   refine ⟨_,(zac (zam 3 nd (e_op zbb e_i (e_op zaK (e_fn FM hr (ac (e_v 0) (a1 e_i)) (by lia)) e_i)))
   (zac (zam 4 nd (e_op zaK (e_fn FM hr (ac (e_v 1) (a1 e_i)) (by lia)) (e_v 3)))
   (zac (zam 5 nd (e_op zaK (e_fn FM hr (ac (e_v 1) (a1 e_i)) (by lia)) (e_v 3)))
   (zac (zam 6 nd (e_op zfY (e_ix zaR (e_fn FN hr (a1 (e_v 0)) (by lia)) (e_op zaK (e_fn FM hr (ac (e_v 1) (a1 e_i)) (by lia)) e_i)) (e_op zhl (e_op zaK (e_fn FM hr (ac (e_v 1) (a1 e_i)) (by lia)) e_i) e_i)))
   (zac (zam 7 nd (e_op zaK (e_fn FM hr (ac (e_v 1) (a1 e_i)) (by lia)) e_i))
   (zac (s_if (JW.jt (w_and (zaZ o_gt (e_v 2) e_i) (zcW (zaZ o_lt (e_v 7) e_i)))) (zac (zam 8 nd (e_fn FF hr (ac (e_v 0) (ac (e_fn FP hr (ac (e_v 1) (a1 e_i)) (by lia)) (a1 (e_op zfY (e_v 2) e_i)))) (Nat.le_refl _)))
    (zaj (zas (za5 (ac (e_ix zaR (zbT (ac e_s (a1 e_s))) (e_v 7)) (ac (e_v 8) (a1 (e_fn FF hr (ac (e_v 0) (ac (e_fn FP hr (ac (e_v 1) (a1 e_i)) (by lia)) (a1 (e_op zfY (e_v 2) e_i)))) (Nat.le_refl _))))))))) zaW)
   (zac (s_if (JW.jt (w_and (zaZ o_gt (e_v 2) e_i) (zcW (zaZ o_eq (e_v 7) e_i)))) (zaj (zas (za5 (ac e_s (a1 (e_fn FF hr (ac (e_v 0) (ac (e_fn FP hr (ac (e_v 1) (a1 e_i)) (by lia)) (a1 (e_op zfY (e_v 2) e_i)))) (Nat.le_refl _))))))) zaW)
   (zaj (zas (e_ix zaR (zbT (ac (za5 (ac e_s (ac (e_v 4) (a1 (e_v 5))))) (ac (za5 (ac e_s (ac (e_v 4) (a1 (e_v 6))))) (ac (za5 (ac e_s (ac (e_v 4) (a1 (e_v 5))))) (a1 (za5 (ac e_s (ac (e_v 4) (a1 (e_v 6)))))))))) (e_op zaK (e_fn FM hr (ac (e_v 1) (a1 e_i)) (by lia)) e_i))))))))))),?_⟩
   have rlb:=zcE d
   have ec:1 + mixF d 61 % 5 = (zaz d:Int):=by
    have:=Int.emod_nonneg (mixF d 61) (show (5:Int) ≠ 0 by decide)
    unfold zaz
    lia
   with_reducible refine zah ?_; intro E_ U_
   refine (exg _ rfl ⟨d,61,rfl,by decide,by decide,_,exg _ rfl ⟨rfl,pz,_,exg _ rfl ⟨rfl,?_⟩⟩⟩)
   dsimp only [zaL]
   rw [ec]
   have lp:(0:Int) < (zaz d:Int):=by lia
   with_reducible refine zah ?_; intro E_ U_
   refine (exg _ rfl ⟨c,80,rfl,by decide,by decide,exg _ rfl ⟨_,exg _ rfl ⟨rfl,lp,?_⟩⟩⟩)
   dsimp only [zaL]
   rw [zjU]
   with_reducible refine zah ?_; intro E_ U_
   refine (exg _ rfl ⟨c,81,rfl,by decide,by decide,exg _ rfl ⟨_,exg _ rfl ⟨rfl,lp,?_⟩⟩⟩)
   dsimp only [zaL]
   rw [zjU]
   have m1:0 ≤ mixF c 82 % 3:=Int.emod_nonneg _ (by decide)
   have m2:mixF c 82 % 3 < 3:=Int.emod_lt_of_pos _ (by decide)
   with_reducible refine zah ?_; intro E_ U_
   refine (exg _ rfl ⟨d,rfl,fun p H1 s1 hp g1=>(exg _ rfl ⟨c,82,rfl,by decide,by decide,_,exg _ rfl ⟨rfl,pz,p,_,_,exg _ rfl ⟨rfl,SqL.of g1,zeK (ns:=numF d) m1 (by simpa [zdr] using m2),exg _ rfl ⟨c,83,rfl,by decide,by decide,_,exg _ rfl ⟨rfl,pz,_,exg _ rfl ⟨rfl,⟨by decide,by decide⟩,_,exg _ rfl ⟨rfl,?_⟩⟩⟩⟩⟩⟩⟩)⟩)
   have ev:(numF d).getD (mixF c 82 % 3).toNat 0 - mixF c 83 % 5 / 4 = valF d c:=rfl
   dsimp only [zaL]
   rw [ev]
   with_reducible refine zah ?_; intro E_ U_
   refine (exg _ rfl ⟨c,84,rfl,by decide,by decide,_,exg _ rfl ⟨rfl,pz,?_⟩⟩)
   have w1:0 ≤ mixF c 84 % 7:=Int.emod_nonneg _ (by decide)
   dsimp only [zaL]
   have F0:∀ m,n = m + 1 → (n:Int) - 1 = (m:Int):=fun m e=>by lia
   refine zjM (fun σ H'=>σ = [some (.int d),some (.int c),some (.int (n:Int)),some (.int (zaz d:Int)),some (.int (colF d c 80:Int)),some (.int (colF d c 81:Int)),some (.int (valF d c)),some (.int (mixF c 84 % 7)),none] ∧ H1 = H' ∧ (n = 0 ∨ 2 ≤ mixF c 84 % 7)) ?_ ?_
   ·intro σ H' h_
    refine zaa ?_; intro G_; obtain ⟨rfl,rfl,hn⟩:=h_
    refine zjM (fun σ H'=>σ = [some (.int d),some (.int c),some (.int (n:Int)),some (.int (zaz d:Int)),some (.int (colF d c 80:Int)),some (.int (colF d c 81:Int)),some (.int (valF d c)),some (.int (mixF c 84 % 7)),none] ∧ H1 = H' ∧ (n = 0 ∨ 3 ≤ mixF c 84 % 7)) ?_ ?_
    ·intro σ H' h_
     refine zaa ?_; intro G_; obtain ⟨rfl,rfl,hn⟩:=h_
     have el:zbf d c n = zef d c:=by
      cases n with
      | zero=>rfl
      | succ m =>
       have:3 ≤ mixF c 84 % 7:=hn.elim (fun z=>by lia) id
       unfold zbf
       rw [if_neg (by lia),if_neg (by lia),if_neg (by lia)]
     rw [el] at k
     refine (exg _ rfl ((exg _ rfl ⟨by show 3 ≤ sizeLine; decide,fun t1 h1=>(exg _ rfl ((exg _ rfl ⟨by show 3 ≤ sizeLine; decide,fun t2 h2=>(exg _ rfl ((exg _ rfl ⟨by show 3 ≤ sizeLine; decide,fun t3 h3=>(exg _ rfl ((exg _ rfl ⟨by show 3 ≤ sizeLine; decide,fun t4 h4=>⟨by show 4 ≤ sizeLine; decide,fun p5 h5=>?_⟩⟩)))⟩)))⟩)))⟩)))
     have u1:upd H1 t1 (.tup [.str "same", .int (colF d c 80:Int),.int (colF d c 81:Int)]) t1 = some (.tup [.str "same", .int (colF d c 80:Int),.int (colF d c 81:Int)]):=zab
     have z1:Same H1 (upd H1 t1 (.tup [.str "same", .int (colF d c 80:Int),.int (colF d c 81:Int)])):=(Same.refl _).upd h1
     generalize upd H1 t1 (.tup [.str "same", .int (colF d c 80:Int),.int (colF d c 81:Int)]) = G1 at u1 z1 h2 h3 h4 h5 ⊢
     have u2:upd G1 t2 (.tup [.str "is", .int (colF d c 80:Int),.int (valF d c)]) t2 = some (.tup [.str "is", .int (colF d c 80:Int),.int (valF d c)]):=zab
     have z2:Same G1 (upd G1 t2 (.tup [.str "is", .int (colF d c 80:Int),.int (valF d c)])):=(Same.refl _).upd h2
     generalize upd G1 t2 (.tup [.str "is", .int (colF d c 80:Int),.int (valF d c)]) = G2 at u2 z2 h3 h4 h5 ⊢
     have u3:upd G2 t3 (.tup [.str "below", .int (colF d c 80:Int),.int (colF d c 81:Int)]) t3 = some (.tup [.str "below", .int (colF d c 80:Int),.int (colF d c 81:Int)]):=zab
     have z3:Same G2 (upd G2 t3 (.tup [.str "below", .int (colF d c 80:Int),.int (colF d c 81:Int)])):=(Same.refl _).upd h3
     generalize upd G2 t3 (.tup [.str "below", .int (colF d c 80:Int),.int (colF d c 81:Int)]) = G3 at u3 z3 h4 h5 ⊢
     have u4:upd G3 t4 (.tup [.str "under", .int (colF d c 80:Int),.int (valF d c)]) t4 = some (.tup [.str "under", .int (colF d c 80:Int),.int (valF d c)]):=zab
     have z4:Same G3 (upd G3 t4 (.tup [.str "under", .int (colF d c 80:Int),.int (valF d c)])):=(Same.refl _).upd h4
     generalize upd G3 t4 (.tup [.str "under", .int (colF d c 80:Int),.int (valF d c)]) = G4 at u4 z4 h5 ⊢
     have u5:upd G4 p5 (.lst [.ref t1,.ref t2,.ref t3,.ref t4]) p5 = some (.lst [.ref t1,.ref t2,.ref t3,.ref t4]):=zab
     have z5:Same G4 (upd G4 p5 (.lst [.ref t1,.ref t2,.ref t3,.ref t4])):=(Same.refl _).upd h5
     generalize upd G4 p5 (.lst [.ref t1,.ref t2,.ref t3,.ref t4]) = G5 at u5 z5 ⊢
     have q1:0 ≤ mixF c 85 % 4:=Int.emod_nonneg _ (by decide)
     have q2:mixF c 85 % 4 < 4:=Int.emod_lt_of_pos _ (by decide)
     have all:=s1.trans (z1.trans (z2.trans (z3.trans (z4.trans z5))))
     have y4:H t4 = none:=(s1.trans (z1.trans (z2.trans z3))).free h4
     have y3:H t3 = none:=(s1.trans (z1.trans z2)).free h3
     have y2:H t2 = none:=(s1.trans z1).free h2
     have y1:H t1 = none:=s1.free h1
     obtain ⟨j,ej⟩ : ∃ j:Nat,mixF c 85 % 4 = (j:Int):=⟨_,(Int.toNat_of_nonneg q1).symm⟩
     have lf:zef d c = zkq d c j:=by unfold zef; rw [ej]; rfl
     rw [lf] at k
     refine (exg _ rfl ⟨c,85,rfl,by decide,by decide,_,exg _ rfl ⟨rfl,pz,?_⟩⟩)
     rw [ej] at q2
     dsimp only
     rw [ej]
     match j,q2,k with
     | 0,_,k=>exact ⟨p5,_,_,exg _ rfl ⟨rfl,SqL.of u5,zaT (j:=0) rfl,k t1 _ all y1 ⟨t1,rfl,(z2.trans (z3.trans (z4.trans z5))) _ _ u1⟩⟩⟩
     | 1,_,k=>exact ⟨p5,_,_,exg _ rfl ⟨rfl,SqL.of u5,zaT (j:=1) rfl,k t2 _ all y2 ⟨t2,rfl,(z3.trans (z4.trans z5)) _ _ u2⟩⟩⟩
     | 2,_,k=>exact ⟨p5,_,_,exg _ rfl ⟨rfl,SqL.of u5,zaT (j:=2) rfl,k t3 _ all y3 ⟨t3,rfl,(z4.trans z5) _ _ u3⟩⟩⟩
     | 3,_,k=>exact ⟨p5,_,_,exg _ rfl ⟨rfl,SqL.of u5,zaT (j:=3) rfl,k t4 _ all y4 ⟨t4,rfl,z5 _ _ u4⟩⟩⟩
     | j + 4,q2,_=>exact absurd q2 (by lia)
    ·intro N hN
     refine (exg _ rfl ⟨_,exg _ rfl ⟨rfl,exg _ rfl ?_⟩⟩)
     refine ite2 (fun hp'=>?_) (fun hp'=>iteF (hN _ _ ⟨rfl,rfl,.inl (by have h0 : ¬ (0:Int) < (n:Int):=fun z=>hp' (decide_eq_true z); lia)⟩))
     have n0:(0:Int) < (n:Int):=of_decide_eq_true hp'
     refine (exg _ rfl ⟨rfl,exg _ rfl ?_⟩)
     refine ite2 (fun h2=>?_) (fun h2=>hN _ _ ⟨rfl,rfl,.inr (by
      have : ¬ mixF c 84 % 7 = 2:=fun z=>h2 (decide_eq_true (congrArg V.int z))
      have:=hn.elim (fun z=>by lia) id
      lia)⟩)
     have e2:mixF c 84 % 7 = 2:=V.int.inj (of_decide_eq_true h2)
     obtain ⟨m,rfl⟩ : ∃ m,n = m + 1:=⟨n - 1,by lia⟩
     have en:((m + 1:Nat) : Int) - 1 = (m:Int):=by lia
     have el:zbf d c (m + 1) = .neg (zbf d (zbM c 1) m):=by
      show (if _ then _ else if _ then _ else if _ then _ else _) = _
      rw [if_neg (by lia),if_neg (by lia),if_pos e2]
     rw [el] at k
     refine (exg _ rfl ((exg _ rfl ⟨c,1,rfl,by decide,by decide,exg _ rfl ⟨_,exg _ rfl ⟨rfl,?_⟩⟩⟩)))
     refine ⟨d,zbM c 1,by rw [← en]; rfl,fun t2 H2 s2 ht2 ct2=>⟨by show 2 ≤ sizeLine; decide,fun t3 h3=>?_⟩⟩
     exact k t3 _ (s1.trans (s2.trans ((Same.refl _).upd h3))) ((s1.trans s2).free h3) ⟨t3,exg _ rfl ⟨zab,CondAt.same ((Same.refl _).upd h3) ct2⟩⟩
   ·intro N hN
    refine (exg _ rfl ⟨_,exg _ rfl ⟨rfl,exg _ rfl ?_⟩⟩)
    refine ite2 (fun hp'=>?_) (fun hp'=>iteF (hN _ _ ⟨rfl,rfl,.inl (by have h0 : ¬ (0:Int) < (n:Int):=fun z=>hp' (decide_eq_true z); lia)⟩))
    have n0:(0:Int) < (n:Int):=of_decide_eq_true hp'
    refine (exg _ rfl ⟨_,exg _ rfl ⟨rfl,exg _ rfl ?_⟩⟩)
    refine ite2 (fun h2=>?_) (fun h2=>hN _ _ ⟨rfl,rfl,.inr (by
     have : ¬ mixF c 84 % 7 < 2:=fun z=>h2 (decide_eq_true z)
     lia)⟩)
    have e2:mixF c 84 % 7 < 2:=of_decide_eq_true h2
    obtain ⟨m,rfl⟩ : ∃ m,n = m + 1:=⟨n - 1,by lia⟩
    have en:((m + 1:Nat) : Int) - 1 = (m:Int):=by lia
    with_reducible refine zah ?_; intro E_ U_
    refine (exg _ rfl ((exg _ rfl ⟨c,1,rfl,by decide,by decide,exg _ rfl ⟨_,exg _ rfl ⟨rfl,?_⟩⟩⟩)))
    refine ⟨d,zbM c 1,by rw [← en]; rfl,fun t2 H2 s2 ht2 ct2=>?_⟩
    refine ⟨by show 2 ≤ sizeLine; decide,fun p3 h3=>?_⟩
    have s3:Same H2 (upd H2 p3 (.lst [.str "both", .str "either"])):=(Same.refl _).upd h3
    have u3:upd H2 p3 (.lst [.str "both", .str "either"]) p3 = some (.lst [.str "both", .str "either"]):=zab
    generalize upd H2 p3 (.lst [.str "both", .str "either"]) = H3 at s3 u3 ⊢
    obtain ⟨j,ej⟩ : ∃ j:Nat,mixF c 84 % 7 = (j:Int):=⟨_,(Int.toNat_of_nonneg w1).symm⟩
    rw [ej] at e2 ⊢
    match j,ej,e2 with
    | 0,ej,_ =>
     have el:zbf d c (m + 1) = .both (zbf d (zbM c 1) m) (zbf d (zbM c 2) m):=if_pos ej
     rw [el] at k
     refine (exg _ rfl ⟨p3,_,_,exg _ rfl ⟨rfl,SqL.of u3,zaT (j:=0) rfl,exg _ rfl ((exg _ rfl ((exg _ rfl ⟨c,2,rfl,by decide,by decide,exg _ rfl ⟨_,exg _ rfl ⟨rfl,?_⟩⟩⟩))))⟩⟩)
     refine ⟨d,zbM c 2,by rw [← en]; rfl,fun t4 H4 s4 ht4 ct4=>⟨by show 3 ≤ sizeLine; decide,fun t5 h5=>?_⟩⟩
     have s5:Same H4 (upd H4 t5 (.tup [.str "both", .ref t2,.ref t4])):=(Same.refl _).upd h5
     exact k t5 _ (s1.trans (s2.trans (s3.trans (s4.trans s5)))) ((s1.trans (s2.trans (s3.trans s4))).free h5) ⟨t5,_,exg _ rfl ⟨zab,CondAt.same (s3.trans (s4.trans s5)) ct2,CondAt.same s5 ct4⟩⟩
    | 1, ej, _ =>
     have el:zbf d c (m + 1) = .either (zbf d (zbM c 1) m) (zbf d (zbM c 2) m):=by
      show (if _ then _ else if _ then _ else if _ then _ else _) = _
      rw [if_neg (by lia),if_pos (show mixF c 84 % 7 = 1 from ej)]
     rw [el] at k
     refine (exg _ rfl ⟨p3,_,_,exg _ rfl ⟨rfl,SqL.of u3,zaT (j:=1) rfl,exg _ rfl ((exg _ rfl ((exg _ rfl ⟨c,2,rfl,by decide,by decide,exg _ rfl ⟨_,exg _ rfl ⟨rfl,?_⟩⟩⟩))))⟩⟩)
     refine ⟨d,zbM c 2,by rw [← en]; rfl,fun t4 H4 s4 ht4 ct4=>⟨by show 3 ≤ sizeLine; decide,fun t5 h5=>?_⟩⟩
     have s5:Same H4 (upd H4 t5 (.tup [.str "either", .ref t2,.ref t4])):=(Same.refl _).upd h5
     exact k t5 _ (s1.trans (s2.trans (s3.trans (s4.trans s5)))) ((s1.trans (s2.trans (s3.trans s4))).free h5) ⟨t5,_,exg _ rfl ⟨zab,CondAt.same (s3.trans (s4.trans s5)) ct2,CondAt.same s5 ct4⟩⟩
    | j + 2,_,e2=>exact absurd e2 (by lia)
end
section
variable {P:Program} {w:World} {K:PySem.W.Frag} {mg:Str → Option Value} {base:Heap}
def zbR:Sp:=fun vs H Q _=>∃ (pg pd:Addr) (g:List Int) (kn:Kn),vs = [.ref pg,.ref pd] ∧ H pg = some (.lst (g.map V.int)) ∧ Inc g ∧ 1 ≤ g.length ∧ g.length ≤ 39 ∧ KnownAt H pd kn ∧ (∀ q ∈ kn,q.2.2.length = g.length + 1) ∧ kn.length < 64 ∧
 ∀ (D:Addr) (H':Hp) (es:List Ent),Same H H' → H D = none → SheetN H H' D es → ShB (fun r m=>zaG kn (zan g m) r) es → (∀ e ∈ es,e.2.length ≤ 50) → (∀ e ∈ es,e.1 ∈ kn.map (·.1)) → Q (.ref D) H'
theorem zfl:FnScope ["_law_grid_here","_law_known"] ["_law_grid_here","_law_known"] (zae zbV):=⟨rfl,rfl,rfl,by decide +kernel,rfl,by decide +kernel,by decide +kernel⟩
theorem ze5 {f:Addr} {fd:FuncData} (F:Fun K "_law_sheet" "_law_sheet" zbV f fd) (B:Blts mg) (FP:FnP P w K mg base 2 "_law_span" ["_law_grid_here","_law_lit"] zg2) : FnOk P w K mg base CX0 3 f fd ["_law_grid_here","_law_known"] zbR:=by
 refine F.okJL zfl (fun vs H Q E h=>?_) (fun cdv A outer s H vs Q E hr h=>?_)
 ·refine zaa ?_; intro G_; obtain ⟨_,_,_,_,rfl,_⟩:=h
  rfl
 ·intro X_ D_; refine zaa ?_; intro G_; obtain ⟨pg,pd,g,kn,rfl,hg0,inc,g1,g39,hk,klen,kn64,fin⟩:=h
  have nd3:(["_law_row_here","_law_grid_here","_law_known"] : List Str).Nodup:=by decide +kernel
  refine ⟨_,(zaj (zas (zcL (Nc:=["_law_row_here","_law_grid_here","_law_known"]) (js:=[none,some 0,some 1]) (g:=(zaL 0)) (tt:=(zhI (tOp (rIn K false) (tC (.bl true)) (zhV (tVar 2) (tVar 0))))) (te:=(tTup (zax (tVar 0) (zax (zek zg2 [] E0 (zax (tVar 1) (zax (zhV (tVar 2) (tVar 0)) tNil))) tNil))))
   (zbL rfl rfl rfl rfl (fun x c h=>by simp at h; rcases h with ⟨rfl,rfl⟩ | ⟨rfl,rfl⟩ <;> rfl) rfl rfl rfl) (zbe (e_cb zjT B.sorted PyProof.Rows.boot_sorted (a1 (zlp (e_v 1)))))
   (fun pins C s3 H3 fp=>⟨(g_n 0 nd3),.inr ⟨_,rfl,(t_in e_b (zdP hr (e_v 2) (e_v 0)))⟩,(za5 (ac (e_v 0) (a1 (e_fn FP hr (ac (e_v 1) (a1 (zdP hr (e_v 2) (e_v 0))))))))⟩)))),?_⟩
  have lk:(za7 kn).length < 64:=by unfold za7; rw [List.length_map]; exact kn64
  refine (exg _ rfl ⟨pd,exg _ rfl ⟨hk.at',fun v hv=>?_⟩⟩)
  have t2:Same H (upd H v (vwO v pd)):=(Same.refl H).upd hv
  have u2:upd H v (vwO v pd) v = some (vwO v pd):=zab
  generalize upd H v (vwO v pd) = Ha at t2 u2 ⊢
  have hka:=hk.same t2
  refine ⟨v,pd,_,exg _ rfl ⟨hka.tdict,.inr u2,lk,fun D2 ys2 ks' hD2 p2 pm2 pw2=>?_⟩⟩
  have t3:Same Ha (upd Ha D2 (.lst ys2)):=(Same.refl Ha).upd hD2
  have u3:upd Ha D2 (.lst ys2) D2 = some (.lst ys2):=zab
  have p3:=zf2 t3 p2
  generalize upd Ha D2 (.lst ys2) = Hb at t3 u3 p3 ⊢
  have t03:=t2.trans t3
  have hkb:=hka.same t3
  have hgb:=t03 _ _ hg0
  have ly2:ys2.length = ks'.length:=Paired.length p3
  have lks:ks'.length < 64:=by rw [pm2.length_eq,List.length_map]; exact kn64
  refine ⟨D2,rfl,⟨_,SqL.of u3⟩,fun D3 hD3=>?_⟩
  have f3:H D3 = none:=t03.free hD3
  refine zbg (K:=K) (a:=D2) (xs:=ys2) (fun i _ σ H4=>∃ (o:Option V) (xs:List V) (es:List Ent),σ = [o,some (.ref pg),some (.ref pd)] ∧ Same Hb H4 ∧ H4 D3 = some (.lst xs) ∧ Paired (EntN H H4 D3) xs es ∧ es.map (·.1) = (ks'.take i).filter (hasT kn) ∧ ∀ e ∈ es,zmx kn g e)
   ⟨none,[],[],rfl,(Same.refl Hb).upd hD3,zab,.nil,rfl,fun e h=>nomatch h⟩ (by rintro i _ σ H4 _ ⟨_,_,_,_,sm,_⟩; exact SqL.of (sm _ _ u3)) ?_ ?_
  ·intro J_; intro i x _ σ H4 hx h_
   refine zaa ?_; intro G_; obtain ⟨o,xs,es,rfl,sm,h4,pr,em,good⟩:=h_
   refine zaa ?_; intro G_; obtain ⟨row,er,t,rfl,ht⟩:=zaH p3 hx
   have hrow:row ∈ kn.map (·.1):=pm2.mem_iff.mp (List.mem_of_getElem? er)
   refine zaa ?_; intro G_; obtain ⟨q,hq,rfl⟩:=List.mem_map.mp hrow
   have hk4:=hkb.same sm
   have hv:=zhi hk4.nd hq
   have ht4:H4 t = some (.tup ((q.1.map Sum.inl:List Key).map kV)):=by rw [zcA]; exact sm _ _ ht
   refine (exg _ rfl ((exg _ rfl ⟨pd,exg _ rfl ⟨.inr ⟨_,_,t,hk4.at',rfl,ht4,hv.symm⟩,q.2.1,exg _ rfl ⟨.inl (SqL.of (hk4.lit q hq)),rfl,zkA _,exg _ rfl ?_⟩⟩⟩)))
   rw [if_neg (by decide),zj5]
   have eh:hasT kn q.1 = q.2.2.any id:=by unfold hasT; rw [zcl hk.nd hq]
   cases hb:q.2.2.any id with
   | false =>
    refine iteF ⟨[],_,xs,es,rfl,sm,h4,pr,?_,good⟩
    rw [take_snoc er,List.filter_append,em]
    simp [eh,hb]
   | true =>
    refine iteT (exg _ rfl ((exg _ rfl ((exg _ rfl ((exg _ rfl ⟨pd,exg _ rfl ⟨.inr ⟨_,_,t,hk4.at',rfl,ht4,hv.symm⟩,pg,q.2.1,g,q.2.2,rfl,sm _ _ hgb,hk4.lit q hq,inc,klen q hq,g39,fun r H5 zs s5 hr5 hspan lz can eqz=>⟨by show 2 ≤ sizeLine; decide,fun u hu=>?_⟩⟩⟩)))))))
    have s6:Same H5 (upd H5 u (.tup [.ref t,.ref r])):=(Same.refl H5).upd hu
    have u6:upd H5 u (.tup [.ref t,.ref r]) u = some (.tup [.ref t,.ref r]):=zab
    generalize upd H5 u (.tup [.ref t,.ref r]) = H6 at s6 u6 ⊢
    have s46:=s5.trans s6
    have h6:=s46 _ _ h4
    have lx:xs.length = es.length:=Paired.length pr
    have le:es.length = ((ks'.take i).filter (hasT kn)).length:=by rw [← em,List.length_map]
    have lf:=List.length_filter_le (hasT kn) (ks'.take i)
    rw [List.length_take] at lf
    have nr:r ≠ D3:=fun z=>by rw [z,h4] at hr5; cases hr5
    have fr:H r = none:=(t03.trans sm).free hr5
    have nt:=za3 h6
    have wr:∀ {v:V} {e:Ent},EntN H H6 D3 v e → EntN H (upd H6 D3 (.lst (xs ++ [.ref u]))) D3 v e:=fun ⟨t,p,q,a1,a2,a3,a4,a5,a6⟩=>⟨t,p,q,a1,zbd nt _ _ a2,zbd nt _ _ a3,a4.wr nt a6,a5,a6⟩
    refine ⟨xs,h6,zal (by lia),[],_,xs ++ [.ref u],es ++ [(q.1,zs)],rfl,(sm.trans s46).upd hD3,zab,?_,?_,fun e he=>?_⟩
    ·exact zak (R:=EntN H (upd H6 D3 (.lst (xs ++ [.ref u]))) D3) (wr (e:=(q.1,zs)) ⟨u,t,r,rfl,u6,(sm.trans s46) _ _ ht,hspan.same s6,fr,nr⟩) (Paired.mapP pr (by rintro _ _ ⟨t,p,q,a1,a2,a3,a4,a5,a6⟩; exact wr ⟨t,p,q,a1,s46 _ _ a2,s46 _ _ a3,a4.same s46,a5,a6⟩))
    ·rw [take_snoc er,List.filter_append,List.map_append,em]
     simp [eh,hb]
    ·rcases List.mem_append.mp he with z | z
     ·exact good e z
     ·rw [List.mem_singleton.mp z]; exact ⟨q,hq,rfl,can,lz,eqz⟩
  ·intro _ σ H4 h_
   refine zaa ?_; intro G_; obtain ⟨o,xs,es,rfl,sm,h4,pr,em,good⟩:=h_
   rw [ly2,List.take_length] at em
   refine fin D3 H4 es (t03.trans sm) f3 ⟨xs,h4,pr⟩ (zmN inc g1 hk.nd klen pm2 pw2 em good) (fun e he=>by obtain ⟨_,_,_,_,x,_⟩:=good e he; exact x) fun e he=>?_
   obtain ⟨q,hq,e1,_⟩:=good e he
   rw [← e1]; exact List.mem_map_of_mem hq
end
theorem zfF {row:List Int} {c:Nat} {v:Int} (h:c < row.length) : ((row.map V.int).take c ++ [V.int v]) ++ (row.map V.int).drop (c + 1) = (row.set c v).map V.int:=by
 rw [List.set_eq_take_append_cons_drop,if_pos h]
 simp
theorem catU {K:PySem.W.Frag} {a b:Addr} {xs ys:List V} {H:Hp} {Q:VK} (ha:H a = some (.tup xs)) (hb:H b = some (.tup ys)) (hz:xs.length + ys.length ≤ sizeLine) (h:∀ t H',Same H H' → H' t = some (.tup (xs ++ ys)) → Q (.ref t) H') : zl1 K (.ref a) (.ref b) H Q:=by
 refine ⟨a,b,xs,ys,rfl,rfl,SqT.of ha,SqT.of hb,hz,fun e=>h b H (Same.refl H) (by rw [e]; exact hb),fun _ e=>h a H (Same.refl H) (by rw [e,List.append_nil]; exact ha),fun _ _ p hp=>h p _ ((Same.refl H).upd hp) zab⟩
def Grp (cd:Cond) (c:Nat) (val:Int) (st:Stt) (e:Ent) (l:List Ent) : Prop:=(cd.sem e.1 = false ∧ l = [e]) ∨
 (cd.sem e.1 = true ∧ ∃ z1 z2:List Stt,l = [(e.1,z1),(e.1.set c val,z2)] ∧ Can z1 ∧ Can z2 ∧ (∀ m,zag m z1 = (zag m e.2 && !inS m st)) ∧ ∀ m,zag m z2 = (zag m e.2 && inS m st))
section
variable {cd:Cond} {c:Nat} {val:Int} {st:Stt} {g:List Int} {β:List Int → Nat → Bool} {σ:Nat → Bool} {φ:List Int → Int → Bool}
theorem zeV:∀ {es:List Ent} {gs:List (List Ent)},Paired (Grp cd c val st) es gs → ∀ f ∈ gs.flatten,∃ e ∈ es,∃ l,Grp cd c val st e l ∧ f ∈ l
 | _,_,.nil,f,h=>by simp at h
 | _, _, .cons r t, f, h => by
  rw [List.flatten_cons] at h
  rcases List.mem_append.mp h with h | h
  ·exact ⟨_,List.mem_cons_self,_,r,h⟩
  ·refine zaa ?_; intro G_; obtain ⟨e,he,l,x⟩:=zeV t f h
   exact ⟨e,List.mem_cons_of_mem _ he,l,x⟩
theorem zjQ:∀ {es:List Ent} {gs:List (List Ent)},Paired (Grp cd c val st) es gs → ∀ e ∈ es,∃ l,Grp cd c val st e l ∧ ∀ f ∈ l,f ∈ gs.flatten
 | _,_,.nil,e,h=>nomatch h
 | _, _, .cons r t, e, h => by
  rcases List.mem_cons.mp h with rfl | h
  ·exact ⟨_,r,fun f hf=>by rw [List.flatten_cons]; exact List.mem_append_left _ hf⟩
  ·refine zaa ?_; intro G_; obtain ⟨l,x,y⟩:=zjQ t e h
   exact ⟨l,x,fun f hf=>by rw [List.flatten_cons]; exact List.mem_append_right _ (y f hf)⟩
theorem zmO {e:Ent} {l:List Ent} (h:Grp cd c val st e l) (hc:Can e.2) : ∀ f ∈ l,Can f.2:=by
 rcases h with ⟨_,rfl⟩ | ⟨_,z1,z2,rfl,c1,c2,_⟩
 ·intro f hf; rw [List.mem_singleton.mp hf]; exact hc
 ·intro f hf
  simp only [List.mem_cons,List.not_mem_nil,or_false] at hf
  rcases hf with rfl | rfl
  ·exact c1
  ·exact c2
theorem zlF {e:Ent} {l:List Ent} (h:Grp cd c val st e l) (hc:Can e.2) (hb:∀ m,zag m e.2 = β e.1 (zan g m)) (hs:∀ m,inS m st = σ (zan g m)) : (zap l).length ≤ ((List.range (g.length + 1)).filter (β e.1)).length:=by
 rcases h with ⟨_,rfl⟩ | ⟨_,z1,z2,rfl,c1,c2,h1,h2⟩
 ·have:=zfa hc hb
  simpa [zap] using this
 ·have a1:=zfa (φ:=fun k=>β e.1 k && !σ k) c1 fun m=>by rw [h1,hb,hs]
  have a2:=zfa (φ:=fun k=>β e.1 k && σ k) c2 fun m=>by rw [h2,hb,hs]
  have a3:=zdf (p:=β e.1) (q:=σ) (List.range (g.length + 1))
  simp only [zap,List.flatMap_cons,List.flatMap_nil,List.append_nil,List.length_append,List.length_map]
  lia
theorem zhf:∀ {es:List Ent} {gs:List (List Ent)},Paired (Grp cd c val st) es gs → (∀ e ∈ es,Can e.2) → (∀ e ∈ es,∀ m,zag m e.2 = β e.1 (zan g m)) → (∀ m,inS m st = σ (zan g m)) →
  (zap gs.flatten).length ≤ (es.map fun e=>((List.range (g.length + 1)).filter (β e.1)).length).sum
 | _,_,.nil,_,_,_=>Nat.le_refl _
 | _,_,.cons r t,hc,hb,hs=>by
  have ih:=zhf t (fun e he=>hc e (List.mem_cons_of_mem _ he)) (fun e he=>hb e (List.mem_cons_of_mem _ he)) hs
  have h1:=zlF r (hc _ List.mem_cons_self) (hb _ List.mem_cons_self) hs
  rw [List.flatten_cons,List.map_cons,List.sum_cons]
  unfold zap at *
  rw [List.flatMap_append,List.length_append]
  lia
theorem zka {es:List Ent} {gs:List (List Ent)} (p:Paired (Grp cd c val st) es gs) (h:ShB φ es) (r:List Int) (m:Int) :
  zag m (told (zap gs.flatten) r) = ((φ r m && !(cd.sem r && inS m st)) || (es.map (·.1)).any fun r0=>decide (r0.set c val = r) && (φ r0 m && (cd.sem r0 && inS m st))):=by
 rw [Bool.eq_iff_iff,zfD,Bool.or_eq_true]
 constructor
 ·rintro ⟨f,hf,rfl,hm⟩
  obtain ⟨e,he,l,gr,hfl⟩:=zeV p f hf
  rcases gr with ⟨s0,rfl⟩ | ⟨s1,z1,z2,rfl,c1,c2,h1,h2⟩
  ·rw [List.mem_singleton.mp hfl] at hm ⊢
   refine .inl ?_
   rw [← h.sp e he,hm,s0]; rfl
  ·simp only [List.mem_cons,List.not_mem_nil,or_false] at hfl
   rcases hfl with rfl | rfl
   ·rw [h1,Bool.and_eq_true] at hm
    refine .inl ?_
    rw [← h.sp e he,hm.1]
    have:inS m st = false:=by simpa using hm.2
    rw [this]; simp
   ·rw [h2,Bool.and_eq_true] at hm
    refine .inr (List.any_eq_true.mpr ⟨e.1,List.mem_map_of_mem he,?_⟩)
    rw [decide_eq_true rfl,← h.sp e he,hm.1,hm.2,s1]; rfl
 ·rintro (hm | hm)
  ·rw [Bool.and_eq_true] at hm
   refine zaa ?_; intro G_; obtain ⟨e,he,rfl⟩:=List.mem_map.mp (h.all r m hm.1)
   refine zaa ?_; intro G_; obtain ⟨l,gr,sub⟩:=zjQ p e he
   rcases gr with ⟨s0,rfl⟩ | ⟨s1,z1,z2,rfl,c1,c2,h1,h2⟩
   ·exact ⟨e,sub e (by simp),rfl,by rw [h.sp e he]; exact hm.1⟩
   ·refine ⟨(e.1,z1),sub _ (by simp),rfl,?_⟩
    have h3:=hm.2
    rw [s1] at h3
    rw [h1,h.sp e he,hm.1]
    simpa using h3
  ·refine zaa ?_; intro G_; obtain ⟨r0,hr0,hx⟩:=List.any_eq_true.mp hm
   refine zaa ?_; intro G_; obtain ⟨e,he,rfl⟩:=List.mem_map.mp hr0
   simp only [Bool.and_eq_true,decide_eq_true_eq] at hx
   refine zaa ?_; intro G_; obtain ⟨e1,e2,e3,e4⟩:=hx
   refine zaa ?_; intro G_; obtain ⟨l,gr,sub⟩:=zjQ p e he
   rcases gr with ⟨s0,rfl⟩ | ⟨s1,z1,z2,rfl,c1,c2,h1,h2⟩
   ·rw [s0] at e3; cases e3
   ·exact ⟨(e.1.set c val,z2),sub _ (by simp),e1,by rw [h2,h.sp e he,e2,e4]; rfl⟩
end
section
variable {P:Program} {w:World} {K:PySem.W.Frag} {mg:Str → Option Value} {base:Heap}
def zb8:Sp:=fun vs H Q _=>∃ (p:Addr) (row:List Int) (c:Nat) (v:Int),vs = [.ref p,.int (c:Int),.int v] ∧ H p = some (.tup (row.map V.int)) ∧ c < row.length ∧ row.length ≤ 100 ∧ ∀ (t:Addr) (H':Hp),Same H H' → H' t = some (.tup ((row.set c v).map V.int)) → Q (.ref t) H'
theorem zf5:FnScope ["row","column","value"] ["row","column","value"] (zae zca):=⟨rfl,rfl,rfl,by decide +kernel,rfl,by decide +kernel,by decide +kernel⟩
theorem zfN {f:Addr} {fd:FuncData} (F:Fun K "with_cell" "with_cell" zca f fd) : FnOk P w K mg base CX0 1 f fd ["row","column","value"] zb8:=by
 refine F.okJL zf5 (fun vs H Q E h=>?_) (fun cdv A outer s H vs Q E hr h=>?_)
 ·refine zaa ?_; intro G_; obtain ⟨_,_,_,_,rfl,_⟩:=h
  rfl
 ·intro X_ D_; refine zaa ?_; intro G_; obtain ⟨p,row,c,v,rfl,hp,hc,hl,k⟩:=h
  refine ⟨_,(zaj (zas (e_op zgQ (e_op zgQ (zji (e_v 0) (e_v 1)) (za5 (a1 (e_v 2)))) (zlC (e_v 0) (e_op zbb (e_v 1) e_i))))),?_⟩
  have sz:∀ n,n ≤ 1000 → n ≤ sizeLine:=fun n h=>Nat.le_of_lt (zal (by lia))
  refine (exg _ rfl ((exg _ rfl ⟨c,rfl,p,exg _ rfl ⟨SqT.of hp,?_,fun p1 h1=>?_⟩⟩)))
  ·rintro ⟨_,h⟩
   rw [HT.sIx_nat,List.length_map] at h
   lia
  rw [cutN]
  have s1:Same H (upd H p1 (.tup ((row.map V.int).take c))):=(Same.refl H).upd h1
  have u1:upd H p1 (.tup ((row.map V.int).take c)) p1 = some (.tup ((row.map V.int).take c)):=zab
  generalize upd H p1 (.tup ((row.map V.int).take c)) = H1 at s1 u1 ⊢
  refine (exg _ rfl ⟨by show 1 ≤ sizeLine; decide,fun p2 h2=>?_⟩)
  have s2:Same H1 (upd H1 p2 (.tup [.int v])):=(Same.refl H1).upd h2
  have u2:upd H1 p2 (.tup [.int v]) p2 = some (.tup [.int v]):=zab
  generalize upd H1 p2 (.tup [.int v]) = H2 at s2 u2 ⊢
  refine catU (s2 _ _ u1) u2 (sz _ (by rw [List.length_take,List.length_map]; simp only [List.length_cons,List.length_nil]; lia)) fun t3 H3 s3 u3=>?_
  refine (exg _ rfl ((exg _ rfl ⟨_,exg _ rfl ⟨rfl,(c + 1:Nat),rfl,p,exg _ rfl ⟨SqT.of ((s1.trans (s2.trans s3)) _ _ hp),?_,fun p4 h4=>?_⟩⟩⟩)))
  ·rintro ⟨h,_⟩
   rw [HT.sIx_nat,List.length_map] at h
   lia
  rw [cutT]
  have s4:Same H3 (upd H3 p4 (.tup ((row.map V.int).drop (c + 1)))):=(Same.refl H3).upd h4
  have u4:upd H3 p4 (.tup ((row.map V.int).drop (c + 1))) p4 = some (.tup ((row.map V.int).drop (c + 1))):=zab
  generalize upd H3 p4 (.tup ((row.map V.int).drop (c + 1))) = H4 at s4 u4 ⊢
  refine catU (s4 _ _ u3) u4 (sz _ (by rw [List.length_append,List.length_take,List.length_drop,List.length_map]; simp only [List.length_cons,List.length_nil]; lia)) fun t5 H5 s5 u5=>?_
  rw [zfF hc] at u5
  exact k t5 H5 (s1.trans (s2.trans (s3.trans (s4.trans s5)))) u5
def zcK (CS:Addr) (tT tM:LSite) (Ls:List LSite) : Sp:=fun vs H Q E=>∃ (a:Addr) (v:V) (es:List Ent) (cd:Cond) (c:Nat) (val:Int) (st:Stt),vs = [.ref a,v,.int (c:Int),.int val,vO st.1,vO st.2] ∧ SheetAt H a es ∧ CondAt H v cd ∧
 (¬ okS st → E (.ref CS) none H) ∧
 (okS st → ∃ (L:Nat) (g:List Int) (β:List Int → Nat → Bool) (σ:Nat → Bool) (φ:List Int → Int → Bool),cd.ok L ∧ cd.deep < 4 ∧ c < L ∧ L ≤ 100 ∧ (∀ e ∈ es,e.1.length = L) ∧ tT ∈ Ls ∧ tM ∈ Ls ∧ tT.Ok H ∧ tM.Ok H ∧ es.length < 64 ∧ g.length ≤ 60 ∧ ShB φ es ∧ (∀ e ∈ es,∀ m,zag m e.2 = β e.1 (zan g m)) ∧ (∀ m,inS m st = σ (zan g m)) ∧ (es.map fun e=>((List.range (g.length + 1)).filter (β e.1)).length).sum ≤ 63 ∧
  ∀ (D:Addr) (H':Hp) (es':List Ent),Stay Ls H H' → H D = none → SheetN H H' D es' → ShB (fun r m=>(φ r m && !(cd.sem r && inS m st)) || (es.map (·.1)).any fun r0=>decide (r0.set c val = r) && (φ r0 m && (cd.sem r0 && inS m st))) es' → Q (.ref D) H')
theorem zfw:FnScope ["sheet","condition","column","value","start","end","entries","row","span"] ["sheet","condition","column","value","start","end"] (zae zdD):=⟨rfl,rfl,rfl,by decide +kernel,rfl,by decide +kernel,by decide +kernel⟩
theorem zjd {f CS CW:Addr} {fd:FuncData} {tT tM:LSite} {Ls:List LSite} (F:Fun K "change" "change" zdD f fd) (FR:FnX P w K mg base 2 "refuse_no_stretch" ["start","end"] (zaA CS)) (FM:FnP P w K mg base 4 "meets" ["condition","row"] (zfh 4))
  (FT:FnP P w K mg base 3 "taken" ["one","other"] (zfj tT Ls)) (FE:FnP P w K mg base 3 "met" ["one","other"] (zis tM Ls)) (FC:FnP P w K mg base 1 "with_cell" ["row","column","value"] zb8) (FS:FnX P w K mg base 5 "sheet_of" ["facts"] (zcs CS CW)) (FF:FnP P w K mg base 1 "facts_of" ["entries"] zco) :
  FnOk P w K mg base (CXe P w) 6 f fd ["sheet","condition","column","value","start","end"] (zcK CS tT tM Ls):=by
 refine F.okXL zfw (fun vs H Q E h=>?_) (fun cdv A outer s H vs Q E hr h=>?_)
 ·refine zaa ?_; intro G_; obtain ⟨_,_,_,_,_,_,_,rfl,_⟩:=h
  rfl
 ·intro X_ D_; refine zaa ?_; intro G_; obtain ⟨a,v,es,cd,c,val,st,rfl,hs,hc,bad,good⟩:=h
  have nd:=zfw.nd
  refine ⟨_,(zac (zie ((x_fn FR hr (ac (e_v 4) (a1 (e_v 5)))).je zcJ))
   (zac (zam 6 nd (zbT a0))
   (zac (zc3 (zbe (e_v 0)) (zfA (zaO (g_n 7 nd) (zaO (g_n 8 nd) zc9)))
    (zaj (s_if (zcy (e_fn FM hr (ac (e_v 1) (a1 (e_v 7))))) (zac (zd4 (e_v 6) (za5 (ac (e_v 7) (a1 (e_fn FT hr (ac (e_v 8) (a1 (zbT (a1 (za5 (ac (e_v 4) (a1 (e_v 5)))))))))))))
     (zaj (zd4 (e_v 6) (za5 (ac (e_fn FC hr (ac (e_v 7) (ac (e_v 2) (a1 (e_v 3))))) (a1 (e_fn FE hr (ac (e_v 8) (a1 (zbT (a1 (za5 (ac (e_v 4) (a1 (e_v 5))))))))))))))) (zaj (zd4 (e_v 6) (za5 (ac (e_v 7) (a1 (e_v 8)))))))) zgZ)
   (zaj (zas ((x_fn FS hr (a1 (e_fn FF hr (a1 (e_v 6))))).je zcJ)))))),?_⟩
  with_reducible refine zah ?_; intro E_ U_
  refine (exg _ rfl ((exg _ rfl ⟨st.1,st.2,rfl,fun ok=>?_,fun no=>bad no⟩)))
  replace ok:okS st:=ok
  refine zaa ?_; intro G_; obtain ⟨L,g,β,τ,φ,cok,cdp,cL,L100,wid,tmT,tmM,tokT,tokM,e64,g60,ph,hb,hst,tot,k⟩:=good ok
  refine zaa ?_; intro G_; obtain ⟨xs,ha,hp⟩:=hs
  have lx:xs.length = es.length:=Paired.length hp
  have bd:∀ e ∈ es,∀ x ∈ bnds e.2,x ∈ g:=fun e he=>zfE (ph.can e he) (hb e he)
  have bst:∀ x ∈ bnds [st],x ∈ g:=zfE (zjb ok) (φ:=τ) fun m=>by rw [zbi]; exact hst m
  with_reducible refine zah ?_; intro E_ U_
  refine ⟨Nat.zero_le _,fun b hb0=>?_⟩
  have s0:Same H (upd H b (.lst [])):=(Same.refl H).upd hb0
  with_reducible refine zai ?_; intro E_ U_ S_
  refine ⟨_,rfl,a,rfl,⟨xs,SqL.of (s0 _ _ ha)⟩,za1 (K:=K) (a:=a) (xs:=xs) (fun i σ H'=>∃ (o1 o2:Option V) (ys:List V) (gs:List (List Ent)),σ = [some (.ref a),some v,some (.int (c:Int)),some (.int val),some (vO st.1),some (vO st.2),some (.ref b),o1,o2] ∧ Stay Ls H H' ∧ H' b = some (.lst ys) ∧ ys.length ≤ 2 * i ∧ Paired (EntX H' b) ys gs.flatten ∧ Paired (Grp cd c val st) (es.take i) gs)
   ⟨none,none,[],[],rfl,s0.stay,zab,Nat.le_refl _,.nil,.nil⟩ (by rintro i σ H' _ ⟨_,_,_,_,_,sm,_⟩; exact SqL.of (sm.g ha)) ?_ ?_⟩
  ·intro J_ E_; intro i x σ H2 hx h_
   refine zaa ?_; intro G_; obtain ⟨o1,o2,ys,gs,rfl,sm,h2,l2,pr,md⟩:=h_
   refine zaa ?_; intro G_; obtain ⟨e,he,t,p,q,rfl,ht,hpp,hq⟩:=zaH hp hx
   have hem:e ∈ es:=List.mem_of_getElem? he
   have hi:i < es.length:=(List.getElem?_eq_some_iff.mp he).1
   have cz:Can e.2:=ph.can e hem
   have le:e.2.length ≤ 400:=by have:=zkP cz (bd e hem); lia
   refine ⟨t,exg _ rfl ⟨SqT.of (sm.g ht),rfl,_,exg _ rfl ⟨_,exg _ rfl ⟨rfl,?_⟩⟩⟩⟩
   have two:∀ (fw:Bool → Bool → Bool) (tl:LSite) (H2:Hp) (Q':VK),tl ∈ Ls → tl.Ok H → Stay Ls H H2 → (∀ r H5 zs,Stay Ls H2 H5 → H2 r = none → SpanAt H5 r zs → Can zs → (∀ m,zag m zs = fw (zag m e.2) (inS m st)) → Q' (.ref r) H5) →
     zek (zmT fw tl Ls) [] E0 (zax (tVar 8) (zax (tLst (zax (tTup (zax (tVar 4) (zax (tVar 5) tNil))) tNil)) tNil)) [some (.ref a),some v,some (.int (c:Int)),some (.int val),some (vO st.1),some (vO st.2),some (.ref b),some (.ref p),some (.ref q)] H2 Q':=by
    intro fw tl H2 Q' tm tok sm hq'
    refine (exg _ rfl ((exg _ rfl ((exg _ rfl ⟨by show 2 ≤ sizeLine; decide,fun u hu=>?_⟩)))))
    have s3:Same H2 (upd H2 u (.tup [vO st.1,vO st.2])):=(Same.refl H2).upd hu
    have u3:upd H2 u (.tup [vO st.1,vO st.2]) u = some (.tup [vO st.1,vO st.2]):=zab
    generalize upd H2 u (.tup [vO st.1,vO st.2]) = H3 at s3 u3 ⊢
    refine ⟨by show 1 ≤ sizeLine; decide,fun l hl=>?_⟩
    have s4:Same H3 (upd H3 l (.lst [.ref u])):=(Same.refl H3).upd hl
    have u4:upd H3 l (.lst [.ref u]) l = some (.lst [.ref u]):=zab
    generalize upd H3 l (.lst [.ref u]) = H4 at s4 u4 ⊢
    have s24:=s3.trans s4
    have sp4:SpanAt H4 l [st]:=⟨[.ref u],u4,.cons ⟨u,rfl,s4 _ _ u3⟩ .nil⟩
    refine ⟨q,l,e.2,[st],g,rfl,LamOk.same (sm.lam tl tm tok) s24,(hq.stay sm).same s24,sp4,cz,zjb ok,by lia,bd e hem,bst,le,by simp,fun r H5 zs s5 hr5 hz cz5 iz lz=>?_⟩
    exact hq' r H5 zs ((s24.stay:Stay Ls H2 H4).trans s5) (s24.free hr5) hz cz5 fun m=>by rw [iz m,zbi]
   refine (exg _ rfl ((exg _ rfl ⟨v,_,cd,e.1,rfl,hc.stay sm,⟨p,rfl,sm.g hpp⟩,by rw [wid e hem]; exact cok,cdp,exg _ rfl ?_⟩)))
   cases hb':cd.sem e.1 with
   | false =>
    refine iteF (exg _ rfl ⟨.inl ⟨rfl,_,SqL.of h2⟩,exg _ rfl ((exg _ rfl ⟨by show 2 ≤ sizeLine; decide,fun u hu=>?_⟩))⟩)
    have s4:Same H2 (upd H2 u (.tup [.ref p,.ref q])):=(Same.refl H2).upd hu
    have u4:upd H2 u (.tup [.ref p,.ref q]) u = some (.tup [.ref p,.ref q]):=zab
    generalize upd H2 u (.tup [.ref p,.ref q]) = H4 at s4 u4 ⊢
    have h4:H4 b = some (.lst ys):=s4 _ _ h2
    have nt:=za3 h4
    have s24:Stay Ls H2 H4:=s4.stay
    have nqb:q ≠ b:=fun z=>by obtain ⟨_,z1,_⟩:=hq; rw [z,hb0] at z1; cases z1
    refine ⟨b,ys,exg _ rfl ⟨rfl,h4,zal (by lia),_,_,ys ++ [.ref u],gs ++ [[e]],rfl,(sm.trans s24).wr hb0 h4 rfl (fun φ z=>by cases z),zab,by rw [List.length_append,List.length_singleton]; lia,?_,?_⟩⟩
    ·have ex:EntX H4 b (.ref u) e:=⟨u,p,q,rfl,u4,(sm.trans s24).g hpp,(hq.stay sm).same s4,nqb⟩
     rw [List.flatten_append]
     exact zak (R:=EntX (upd H4 b (.lst (ys ++ [.ref u]))) b) (ex.wr nt) (Paired.mapP pr fun _ _ z=>(EntX.stay z s24).wr nt)
    ·rw [take_snoc he]
     exact zak (R:=Grp cd c val st) (.inl ⟨hb',rfl⟩) md
   | true =>
    refine iteT (exg _ rfl ⟨.inl ⟨rfl,_,SqL.of h2⟩,exg _ rfl ?_⟩)
    refine two (fun x y=>x && !y) tT H2 _ tmT tokT sm fun r1 H3 z1 s3 hr1 sp1 c1 i1=>⟨by show 2 ≤ sizeLine; decide,fun u hu=>?_⟩
    have s4:Same H3 (upd H3 u (.tup [.ref p,.ref r1])):=(Same.refl H3).upd hu
    have u4:upd H3 u (.tup [.ref p,.ref r1]) u = some (.tup [.ref p,.ref r1]):=zab
    generalize upd H3 u (.tup [.ref p,.ref r1]) = H4 at s4 u4 ⊢
    have s24:Stay Ls H2 H4:=s3.trans s4.stay
    have h4:H4 b = some (.lst ys):=s24.g h2
    have nt:=za3 h4
    have n1:r1 ≠ b:=fun z=>by rw [z,h2] at hr1; cases hr1
    refine ⟨b,ys,exg _ rfl ⟨rfl,h4,zal (by lia),?_⟩⟩
    have ex:EntX H4 b (.ref u) (e.1,z1):=⟨u,p,r1,rfl,u4,(sm.trans s24).g hpp,sp1.same s4,n1⟩
    have sm5:Stay Ls H (upd H4 b (.lst (ys ++ [.ref u]))):=(sm.trans s24).wr hb0 h4 rfl (fun φ z=>by cases z)
    have h5:upd H4 b (.lst (ys ++ [.ref u])) b = some (.lst (ys ++ [.ref u])):=zab
    have pr5:Paired (EntX (upd H4 b (.lst (ys ++ [.ref u]))) b) (ys ++ [.ref u]) (gs.flatten ++ [(e.1,z1)]):=zak (R:=EntX (upd H4 b (.lst (ys ++ [.ref u]))) b) (ex.wr nt) (Paired.mapP pr fun _ _ z=>(EntX.stay z s24).wr nt)
    generalize upd H4 b (.lst (ys ++ [.ref u])) = H5 at sm5 h5 pr5 ⊢
    refine (exg _ rfl ⟨.inl ⟨rfl,_,SqL.of h5⟩,exg _ rfl ((exg _ rfl ((exg _ rfl ⟨p,e.1,c,val,rfl,sm5.g hpp,by rw [wid e hem]; exact cL,by rw [wid e hem]; exact L100,fun t6 H6 s6 u6=>?_⟩))))⟩)
    refine two (fun x y=>x && y) tM H6 _ tmM tokM (sm5.trans s6.stay) fun r2 H7 z2 s7 hr2 sp2 c2 i2=>⟨by show 2 ≤ sizeLine; decide,fun u7 hu7=>?_⟩
    have s8:Same H7 (upd H7 u7 (.tup [.ref t6,.ref r2])):=(Same.refl H7).upd hu7
    have u8:upd H7 u7 (.tup [.ref t6,.ref r2]) u7 = some (.tup [.ref t6,.ref r2]):=zab
    generalize upd H7 u7 (.tup [.ref t6,.ref r2]) = H8 at s8 u8 ⊢
    have s68:Stay Ls H6 H8:=s7.trans s8.stay
    have s58:Stay Ls H5 H8:=(s6.stay:Stay Ls H5 H6).trans s68
    have h8:H8 b = some (.lst (ys ++ [.ref u])):=s58.g h5
    have nt8:=za3 h8
    have n2:r2 ≠ b:=fun z=>by rw [z,s6 _ _ h5] at hr2; cases hr2
    have ex8:EntX H8 b (.ref u7) (e.1.set c val,z2):=⟨u7,t6,r2,rfl,u8,s68.g u6,sp2.same s8,n2⟩
    refine ⟨b,_,exg _ rfl ⟨rfl,h8,zal (by rw [List.length_append,List.length_singleton]; lia),_,_,(ys ++ [.ref u]) ++ [.ref u7],gs ++ [[(e.1,z1),(e.1.set c val,z2)]],rfl,(sm5.trans s58).wr hb0 h8 rfl (fun φ z=>by cases z),zab,by rw [List.length_append,List.length_append,List.length_singleton,List.length_singleton]; lia,?_,?_⟩⟩
    ·rw [List.flatten_append,show (gs.flatten ++ [[(e.1,z1),(e.1.set c val,z2)]].flatten) = (gs.flatten ++ [(e.1,z1)]) ++ [(e.1.set c val,z2)] by simp]
     exact zak (R:=EntX (upd H8 b (.lst ((ys ++ [.ref u]) ++ [.ref u7]))) b) (ex8.wr nt8) (Paired.mapP pr5 fun _ _ z=>(EntX.stay z s58).wr nt8)
    ·rw [take_snoc he]
     exact zak (R:=Grp cd c val st) (.inr ⟨hb',z1,z2,rfl,c1,c2,i1,i2⟩) md
  ·intro σ H2 h_
   refine zaa ?_; intro G_; obtain ⟨o1,o2,ys,gs,rfl,sm,h2,l2,pr,md⟩:=h_
   rw [lx,List.take_length] at md
   have m1:(zap gs.flatten).length ≤ 63:=Nat.le_trans (zhf md ph.can hb hst) tot
   have m2:∀ f ∈ zap gs.flatten,okS f.2:=fun f hf=>by
    refine zaa ?_; intro G_; obtain ⟨x,hx,_,h3⟩:=zbU.mp hf
    refine zaa ?_; intro G_; obtain ⟨e,he,l,gr,hl⟩:=zeV md x hx
    exact (zmO gr (ph.can e he) x hl).1 _ h3
   have m3:∀ f ∈ zap gs.flatten,f.1.length = L:=fun f hf=>by
    obtain ⟨x,hx,h3,_⟩:=zbU.mp hf
    obtain ⟨e,he,l,gr,hl⟩:=zeV md x hx
    rw [h3]
    rcases gr with ⟨_,rfl⟩ | ⟨_,z1,z2,rfl,_⟩
    ·rw [List.mem_singleton.mp hl]; exact wid e he
    ·simp only [List.mem_cons,List.not_mem_nil,or_false] at hl
     rcases hl with rfl | rfl
     ·exact wid e he
     ·show (e.1.set c val).length = L; rw [List.length_set]; exact wid e he
   refine (exg _ rfl ⟨b,gs.flatten,rfl,⟨ys,h2,Paired.mapP pr fun _ _ z=>EntX.ent z⟩,by lia,fun r H3 zs s3 hr3 h3 p3=>?_⟩)
   refine ⟨r,zs,zap gs.flatten,rfl,h3,p3,by lia,fun f hf z=>?_,fun g1 g2=>⟨⟨(zap gs.flatten).map (·.1),by rw [List.length_map]; lia,fun f hf=>List.mem_map_of_mem hf⟩,fun r=>by have:=zkH (zap gs.flatten) r; lia,fun D H' es' s' hD sn so=>?_⟩,(by rintro ⟨f,hf,hn⟩ _ _; exact absurd (m2 f hf) hn),(by rintro _ ⟨f,hf,hn⟩ _ _; exact absurd (zgs m3 f hf) hn)⟩
   ·have:=m3 f hf
    rw [z] at this
    simp at this
    lia
   ·have s23:Stay Ls H H3:=sm.trans s3.stay
    exact k D H' es' (s23.trans s'.stay) (s23.free hD) (sn.weakS s23) ((so.shB m2).imp fun r m=>zka md ph r m)
end
def cntS (kn:Kn) : Nat:=(kn.map fun q=>(q.2.2.filter id).length).sum
theorem zgW:∀ (l:List Bool) (j:Nat),((l.set j true).filter id).length ≤ (l.filter id).length + 1
 | [],j=>by simp
 | b :: l,0=>by cases b <;> simp
 | b :: l,j + 1=>by
  have:=zgW l j
  cases b <;> simp [List.set] <;> lia
theorem zhd {a:Addr} {j:Nat} : ∀ {kn:Kn},(kn.map (·.2.1)).Nodup → cntS (kn.map fun p=>if p.2.1 = a then (p.1,p.2.1,p.2.2.set j true) else p) ≤ cntS kn + 1
 | [],_=>by simp [cntS]
 | p :: kn, nd => by
  rw [List.map_cons,List.nodup_cons] at nd
  have ih:=zhd (a:=a) (j:=j) nd.2
  unfold cntS at *
  simp only [List.map_cons,List.sum_cons]
  by_cases z:p.2.1 = a
  ·rw [if_pos z]
   have h1:=zgW p.2.2 j
   have e:(kn.map fun p=>if p.2.1 = a then (p.1,p.2.1,p.2.2.set j true) else p) = kn:=by
    have:∀ q ∈ kn,(if q.2.1 = a then (q.1,q.2.1,q.2.2.set j true) else q) = q:=fun q hq=>if_neg fun y=>nd.1 (by rw [z,← y]; exact List.mem_map_of_mem hq)
    conv=>rhs; rw [← List.map_id kn]
    exact List.map_congr_left this
   rw [e]
   show ((p.2.2.set j true).filter id).length + _ ≤ _
   lia
  ·rw [if_neg z]; lia
theorem zkU {kn:Kn} {row:List Int} {D:Addr} {n:Nat} : cntS (kn ++ [(row,D,List.replicate n false)]) = cntS kn:=by
 unfold cntS
 rw [List.map_append,List.sum_append]
 simp
theorem zij {α:Type} [DecidableEq α] {f:α → Nat} : ∀ {l m:List α},l.Nodup → (∀ x ∈ l,x ∈ m) → (l.map f).sum ≤ (m.map f).sum
 | [],_,_,_=>by simp
 | x :: l, m, nd, h => by
  obtain ⟨n1,n2⟩:=List.nodup_cons.mp nd
  have hx:=h x List.mem_cons_self
  have ih:=zij (f:=f) (l:=l) (m:=m.erase x) n2 fun y hy=>(List.mem_erase_of_ne (fun (e:y = x)=>n1 (by rw [← e]; exact hy))).mpr (h y (List.mem_cons_of_mem _ hy))
  have e:(m.map f).sum = f x + ((m.erase x).map f).sum:=by
   have:=((List.perm_cons_erase hx).map f).sum_nat
   rw [this]; simp
  rw [e,List.map_cons,List.sum_cons]
  lia
theorem zdb:∀ (l:List Bool),((List.range l.length).filter fun k=>(l[k]?).getD false).length = (l.filter id).length
 | []=>rfl
 | b :: l=>by
  have ih:=zdb l
  rw [List.length_cons,List.range_succ_eq_map,List.filter_cons,List.filter_map]
  have e:((fun k=>((b :: l)[k]?).getD false) ∘ Nat.succ) = fun k=>(l[k]?).getD false:=by funext k; simp
  rw [e]
  cases b <;> simp [ih]
theorem zh4 {kn:Kn} {es:List Ent} {n:Nat} (nd:(kn.map (·.1)).Nodup) (len:∀ q ∈ kn,q.2.2.length = n + 1) (ne:(es.map (·.1)).Nodup) (sub:∀ e ∈ es,e.1 ∈ kn.map (·.1)) :
  (es.map fun e=>((List.range (n + 1)).filter fun k=>zaG kn k e.1).length).sum ≤ cntS kn:=by
 have h1:=zij (f:=fun r=>((List.range (n + 1)).filter fun k=>zaG kn k r).length) ne (m:=kn.map (·.1)) fun r hr=>by obtain ⟨e,he,rfl⟩:=List.mem_map.mp hr; exact sub e he
 rw [List.map_map,List.map_map] at h1
 refine Nat.le_trans h1 (Nat.le_of_eq ?_)
 unfold cntS
 refine congrArg List.sum (List.map_congr_left fun q hq=>?_)
 show ((List.range (n + 1)).filter fun k=>zaG kn k q.1).length = _
 rw [← zdb,len q hq]
 refine congrArg List.length (List.filter_congr fun k _=>?_)
 rw [zba,zcl nd hq]
theorem zjh {kn kn':Kn} (e1:kn'.map (·.1) = kn.map (·.1)) (e2:kn'.map (·.2.1) = kn.map (·.2.1)) {q:List Int × Addr × List Bool} (hq:q ∈ kn) : ∃ p ∈ kn',p.1 = q.1 ∧ p.2.1 = q.2.1:=by
 obtain ⟨i,hi⟩:=List.getElem?_of_mem hq
 have l:kn'.length = kn.length:=by have:=congrArg List.length e1; rwa [List.length_map,List.length_map] at this
 have hl:i < kn'.length:=by rw [l]; exact (List.getElem?_eq_some_iff.mp hi).1
 refine ⟨kn'[i],List.getElem_mem hl,?_,?_⟩
 ·have:=congrArg (·[i]?) e1
  simp only [List.getElem?_map,hi,List.getElem?_eq_getElem hl,Option.map_some,Option.some.injEq] at this
  exact this
 ·have:=congrArg (·[i]?) e2
  simp only [List.getElem?_map,hi,List.getElem?_eq_getElem hl,Option.map_some,Option.some.injEq] at this
  exact this
theorem zlS {kn:Kn} {q:List Int × Addr × List Bool} {j k:Nat} {r:List Int} (nd:(kn.map (·.1)).Nodup) (ad:(kn.map (·.2.1)).Nodup) (hq:q ∈ kn) (hk:k < q.2.2.length) :
  zaG (kn.map fun p=>if p.2.1 = q.2.1 then (p.1,p.2.1,p.2.2.set j true) else p) k r = (zaG kn k r || (decide (r = q.1) && decide (k = j))):=by
 have:=zmR (v:=true) (f:=j) (n:=1) (r:=r) nd ad hq hk
 rw [show (kn.map fun p=>if p.2.1 = q.2.1 then (p.1,p.2.1,p.2.2.set j true) else p) = knR true kn q.2.1 j 1 from rfl,this]
 by_cases h:r = q.1 ∧ j ≤ k ∧ k < j + 1
 ·rw [if_pos h,decide_eq_true h.1,decide_eq_true (show k = j by lia)]; simp
 ·rw [if_neg h]
  by_cases z:r = q.1
  ·rw [decide_eq_false (show ¬ k = j from fun y=>h ⟨z,by lia,by lia⟩)]; simp
  ·rw [decide_eq_false z]; simp
theorem zc5 {H2 H5:Hp} {D N t:Addr} {n:Nat} {k2:Kn} {row:List Int} {Q:VK} (I:KnI H2 H5 D n k2) (h5:H5 N = some (.lst ((List.replicate (n + 1) false).map V.bl))) (fN:H2 N = none) (nN:N ∉ k2.map (·.2.1)) (ner:row ≠ []) (l2:k2.length ≤ 900) (ht:H5 t = some (.tup (row.map V.int)))
  (J:∀ (k3:Kn) (q1:List Int × Addr × List Bool) (H':Hp),KnI H2 H' D n k3 → q1 ∈ k3 → q1.1 = row → (∀ p ∈ k2,p ∈ k3) → (∀ k r,zaG k3 k r = zaG k2 k r) → k3.length ≤ k2.length + 1 → (∀ p ∈ k3,p.1 ∈ k2.map (·.1) ∨ p.1 = row) → cntS k3 = cntS k2 → (∀ b xs,H5 b = some (.tup xs) → H' b = some (.tup xs)) → Q (.ref q1.2.1) H') : zgp (.ref D) [.ref t,.ref N] H5 Q:=by
 refine ⟨D,t,.ref N,za7 k2,row.map Sum.inl,rfl,rfl,I.at',by rw [zcA]; exact ht,by unfold za7; rw [List.length_map]; exact zal (by lia),?_⟩
 by_cases hr':row ∈ k2.map (·.1)
 ·obtain ⟨q,hq,eq⟩:=List.mem_map.mp hr'
  have hv:=zhi I.nd hq
  rw [eq] at hv
  rw [hv]
  exact J k2 q H5 I hq eq (fun p hp=>hp) (fun _ _=>rfl) (by lia) (fun p hp=>.inl (List.mem_map_of_mem hp)) rfl fun b xs h=>h
 ·rw [zgA hr']
  have ntd:∀ zs,H5 D ≠ some (.tup zs):=fun zs z=>by rw [I.at'] at z; cases z
  exact J _ (row,N,List.replicate (n + 1) false) _ (I.add hr' ner h5 List.length_replicate fN nN) (List.mem_append_right _ (by simp)) rfl (fun p hp=>List.mem_append_left _ hp) (fun k r=>zl6 hr') (by rw [List.length_append,List.length_singleton]; lia) (fun p hp=>(List.mem_append.mp hp).elim (fun z=>.inl (List.mem_map_of_mem z)) fun z=>.inr (by rw [List.mem_singleton.mp z])) zkU fun b xs h=>zbd ntd _ _ h
def chF (cd:Cond) (c:Nat) (val:Int) (fi la:Nat) (kn:Kn) (k:Nat) (r r0:List Int) : Bool :=
 (decide (r = r0) && (zaG kn k r0 && !(cd.sem r0 && decide (fi ≤ k ∧ k ≤ la)))) || (decide (r = r0.set c val) && (zaG kn k r0 && (cd.sem r0 && decide (fi ≤ k ∧ k ≤ la))))
section
variable {P:Program} {w:World} {K:PySem.W.Frag} {mg:Str → Option Value} {base:Heap}
def zbq:Sp:=fun vs H Q _=>∃ (pd:Addr) (v:V) (c:Nat) (val:Int) (fi la n L:Nat) (kn:Kn) (cd:Cond),vs = [.ref pd,v,.int (c:Int),.int val,.int (fi:Int),.int (la:Int)] ∧ H pd = some (.dT (za7 kn)) ∧ KnownAt H pd kn ∧ (∀ q ∈ kn,q.2.2.length = n + 1) ∧ (∀ q ∈ kn,q.1.length = L) ∧ kn.length ≤ 27 ∧ n ≤ 100 ∧
 CondAt H v cd ∧ cd.ok L ∧ cd.deep < 4 ∧ c < L ∧ L ≤ 100 ∧
 ∀ (D:Addr) (H':Hp) (kn2:Kn),(∀ b u,H b = some u → b ≠ pd → H' b = some u) → H D = none → KnownAt H' D kn2 → (∀ q ∈ kn2,q.2.2.length = n + 1) → kn2.length ≤ 54 → (∀ k r,k < n + 1 → zaG kn2 k r = (kn.map (·.1)).any (chF cd c val fi la kn k r)) → Q (.ref D) H'
theorem zbY:FnScope ["_law_known","_law_condition_here","_law_column","_law_value","_law_first","_law_last","_law_found","_law_row_here","_law_lit","_law_there","_law_other","_law_k"] ["_law_known","_law_condition_here","_law_column","_law_value","_law_first","_law_last"] (zae zbp):=⟨rfl,rfl,rfl,by decide +kernel,rfl,by decide +kernel,by decide +kernel⟩
theorem zdK {f:Addr} {fd:FuncData} (F:Fun K "_law_changed" "_law_changed" zbp f fd) (B:Blts mg) (FE:FnP P w K mg base 4 "_law_meets" ["_law_condition_here","_law_row_here"] (zds 4)) :
  FnOk P w K mg base CX0 5 f fd ["_law_known","_law_condition_here","_law_column","_law_value","_law_first","_law_last"] zbq:=by
 refine F.okJL zbY (fun vs H Q E h=>?_) (fun cdv A outer s H vs Q E hr h=>?_)
 ·refine zaa ?_; intro G_; obtain ⟨_,_,_,_,_,_,_,_,_,_,rfl,_⟩:=h
  rfl
 ·intro X_ D_; obtain ⟨pd,v,c,val,fi,la,n,L,kn,cd,rfl,hpd,hk,klen,wk,k27,n100,cv,cok,cdp,cL,L100,fin⟩:=h
  have nd:=zbY.nd
  have nd1:(["_law_k"] : List Str).Nodup:=by decide +kernel
  refine ⟨_,(zac (zjc 6 nd zgr)
   (zac (zc3 (znJ (zlp (e_v 0))) (g_n 7 nd)
    (zac (zam 8 nd (zdv hr (e_v 6) (ac (e_v 7) (acn (zcL (Nc:=["_law_k"]) (js:=[none]) (g:=(zaL 0)) (tt:=tYes) (te:=(tC (.bl false)))
   (zbL rfl rfl rfl rfl (fun x c h=>by cases h) rfl rfl rfl) (zbe (zdP hr (e_v 0) (e_v 7)))
   (fun pins C s3 H3 fp=>⟨(g_n 0 nd1),.inl ⟨rfl,rfl⟩,e_b⟩)) a0))))
    (zac (zam 9 nd (e_op zgQ (e_op zgQ (zji (e_v 7) (e_v 2)) (za5 (a1 (e_v 3)))) (zlC (e_v 7) (e_op zbb (e_v 2) e_i))))
    (zac (zam 10 nd (zdv hr (e_v 6) (ac (e_v 9) (acn (zcL (Nc:=["_law_k"]) (js:=[none]) (g:=(zaL 0)) (tt:=tYes) (te:=(tC (.bl false)))
   (zbL rfl rfl rfl rfl (fun x c h=>by cases h) rfl rfl rfl) (zbe (zdP hr (e_v 0) (e_v 7)))
   (fun pins C s3 H3 fp=>⟨(g_n 0 nd1),.inl ⟨rfl,rfl⟩,e_b⟩)) a0))))
    (zaj (zc3 (zib B.range (a1 (e_cb zdp B.len PySem.boot_len (a1 (e_v 8))))) (g_n 11 nd)
     (zaj (s_if (JW.jt (w_and (zcy (e_ix zaR (zdP hr (e_v 0) (e_v 7)) (e_v 11))) (w_and (zaZ o_le (e_v 4) (e_v 11)) (w_and (zaZ o_le (e_v 11) (e_v 5)) (zcW (zcy (e_fn FE hr (ac (e_v 1) (a1 (e_v 7)))))))))) (zaj (zi7 e_b (zkz (e_v 10) (e_v 11) zhb))) (zaj (s_if (zcy (e_ix zaR (zdP hr (e_v 0) (e_v 7)) (e_v 11))) (zaj (zi7 e_b (zkz (e_v 8) (e_v 11) zhb))) zaW))))))))))
   (zaj (zas (e_v 6))))),?_⟩
  refine fun D hD=>?_
  have s1:Same H (upd H D (.dT [])):=(Same.refl H).upd hD
  have u1:upd H D (.dT []) D = some (.dT []):=zab
  have nDp:D ≠ pd:=fun z=>by rw [z,hpd] at hD; cases hD
  with_reducible refine zai ?_; intro E_ U_ S_
  refine (exg _ rfl ⟨pd,exg _ rfl ⟨.inl (s1 _ _ hpd),fun vw hvw=>?_⟩⟩)
  have hvH:H vw = none:=s1.free hvw
  have nvp:vw ≠ pd:=fun z=>by rw [z,hpd] at hvH; cases hvH
  have nvD:vw ≠ D:=fun z=>by rw [z,u1] at hvw; cases hvw
  refine ⟨vw,pd,za7 kn,rfl,.inr zab,.inl ⟨by rw [zad nvp.symm]; exact s1 _ _ hpd,fun ob=>?_⟩⟩
  obtain ⟨H2,eH2⟩ : ∃ H2,H2 = upd H pd (.frz ob (.dT (za7 kn))):=⟨_,rfl⟩
  have off2:∀ b u,H b = some u → b ≠ pd → H2 b = some u:=fun b u e ne=>by rw [eH2,zad ne]; exact e
  have at2:H2 pd = some (.frz ob (.dT (za7 kn))):=by rw [eH2,zab]
  have D2:H2 D = none:=by rw [eH2,zad nDp]; exact hD
  have same2:Same H2 (upd (upd (upd H D (.dT [])) vw (vwO vw pd)) pd (.frz ob (.dT (za7 kn)))):=fun b u e=>by
   by_cases z:b = pd
   ·rw [z,zab]; rw [z,at2] at e; exact e
   ·rw [eH2,zad z] at e
    rw [zad z,zad (zaf e hvH),zad (zaf e hD)]; exact e
  have atD:(upd (upd (upd H D (.dT [])) vw (vwO vw pd)) pd (.frz ob (.dT (za7 kn)))) D = some (.dT []):=by rw [zad nDp,zad nvD.symm]; exact u1
  generalize (upd (upd (upd H D (.dT [])) vw (vwO vw pd)) pd (.frz ob (.dT (za7 kn)))) = H3 at same2 atD ⊢
  have hk2:KnownAt H2 pd kn:=⟨.inr ⟨_,at2⟩,hk.nd,hk.ne,fun q hq=>off2 _ _ (hk.lit q hq) fun z=>by have:=hk.lit q hq; rw [z,hpd] at this; cases this⟩
  have cv2:CondAt H2 v cd:=CondAt.off (fun b xs e=>off2 b _ e fun z=>by rw [z,hpd] at e; cases e) cv
  have kkeys:(za7 kn).map (·.1) = (kn.map (·.1)).map (·.map Sum.inl):=by unfold za7; rw [List.map_map,List.map_map]; rfl
  have kn0:KnI H2 H3 D n []:=⟨atD,.nil,(fun q h=>nomatch h),(fun q h=>nomatch h),.nil,(fun q h=>nomatch h),(fun q h=>nomatch h),same2,D2⟩
  have litC:∀ (H4:Hp) (q:List Int × Addr × List Bool) (Q':VK) (N:Addr),H4 q.2.1 = some (.lst (q.2.2.map V.bl)) → q.2.2.length = n + 1 → H4 N = none → (∀ H5,Same H4 H5 → H5 N = some (.lst ((List.replicate (n + 1) false).map V.bl)) → Q' (.ref N) H5) → zdE (Itl K q.2.1) (zaL 0) tYes (tC (.bl false)) N Q' [none] (upd H4 N (.lst [])):=by
   intro H4 q Q' N hq ql hN hk'
   refine zbg (K:=K) (a:=q.2.1) (xs:=q.2.2.map V.bl) (fun i _ σ H5=>∃ o,σ = [o] ∧ Same H4 H5 ∧ H5 N = some (.lst (List.replicate i (V.bl false)))) ⟨none,rfl,(Same.refl _).upd hN,zab⟩ (by rintro i _ σ H5 _ ⟨_,_,sm,_⟩; exact SqL.of (sm _ _ hq)) ?_ ?_
   ·intro J_; intro i x _ σ H5 hx h_
    refine zaa ?_; intro G_; obtain ⟨o,rfl,sm,h5⟩:=h_
    have hi:i < n + 1:=by have:=(List.getElem?_eq_some_iff.mp hx).1; rw [List.length_map,ql] at this; exact this
    refine ⟨_,h5,zal (by rw [List.length_replicate]; lia),[],exg _ rfl ⟨sm.upd hN,?_⟩⟩
    rw [zab,List.replicate_succ']
   ·intro _ σ H5 h_
    refine zaa ?_; intro G_; obtain ⟨o,rfl,sm,h5⟩:=h_
    rw [List.length_map,ql,zlB] at h5
    exact hk' H5 sm h5
  refine zjV kkeys (fun i σ H'=>∃ (o7 o8 o9 o10 o11:Option V) (k2:Kn),σ = [some (.ref pd),some v,some (.int (c:Int)),some (.int val),some (.int (fi:Int)),some (.int (la:Int)),some (.ref D),o7,o8,o9,o10,o11] ∧ KnI H2 H' D n k2 ∧ k2.length ≤ 2 * i ∧ ∀ k r,k < n + 1 → zaG k2 k r = ((kn.map (·.1)).take i).any (chF cd c val fi la kn k r))
   ⟨_,_,_,_,_,[],rfl,kn0,Nat.le_refl _,fun k r _=>rfl⟩ (by rintro i σ H' _ ⟨_,_,_,_,_,_,_,I,_⟩; exact I.same _ _ at2) ?_ ?_
  ·rintro i x row σ H4 hrow ⟨t,rfl,ht⟩ ⟨o7,o8,o9,o10,o11,k2,rfl,I,l2,bits⟩
   have hi:i < kn.length:=by have:=(List.getElem?_eq_some_iff.mp hrow).1; rwa [List.length_map] at this
   refine zaa ?_; intro G_; obtain ⟨q,hq,rfl⟩:=List.mem_map.mp (List.mem_of_getElem? hrow)
   have wq:=wk q hq
   have ner:q.1 ≠ []:=hk.ne q hq
   have hv:=zhi hk2.nd hq
   have wl:(q.1.set c val).length = L:=by rw [List.length_set]; exact wq
   have ner2:q.1.set c val ≠ []:=fun z=>by rw [z] at wl; simp at wl; lia
   have gt:∀ {H':Hp},Same H2 H' → H' t = some (.tup (q.1.map V.int)) → Rd H' pd (.dT (za7 kn)) ∧ H' t = some (.tup ((q.1.map Sum.inl:List Key).map kV)) ∧ H' q.2.1 = some (.lst (q.2.2.map V.bl)):=fun s' h'=>⟨(hk2.same s').at',by rw [zcA]; exact h',(hk2.same s').lit q hq⟩
   refine zaa ?_; intro G_; obtain ⟨ga,gb,gc⟩:=gt I.same ht
   with_reducible refine zai ?_; intro E_ U_ S_
   refine (exg _ rfl ⟨.inr (.inr (.inl ⟨rfl,.inr ⟨_,I.at'⟩⟩)),exg _ rfl ((exg _ rfl ((exg _ rfl ⟨pd,exg _ rfl ⟨.inr ⟨_,_,t,ga,rfl,gb,hv.symm⟩,q.2.1,rfl,⟨_,SqL.of gc⟩,fun N hN=>litC H4 q _ N gc (klen q hq) hN fun H5 s5 h5=>?_⟩⟩))))⟩)
   have I5:=I.sm s5
   have nN:∀ {k2:Kn} {H4:Hp} {N:Addr},KnI H2 H4 D n k2 → H4 N = none → N ∉ k2.map (·.2.1):=fun {k2 H4 N} I hN z=>by
    refine zaa ?_; intro G_; obtain ⟨p,hp,e⟩:=List.mem_map.mp z
    have:=I.lit p hp
    rw [e,hN] at this; cases this
   refine zc5 I5 h5 (I.same.free hN) (nN I hN) ner (by lia) (s5 _ _ ht) fun k3 q1 H6 I6 hq1 eq1 sub1 bit6 l3 _ _ tup6=>?_
   have ht6:=tup6 _ _ (s5 _ _ ht)
   have sz:∀ n,n ≤ 1000 → n ≤ sizeLine:=fun n h=>Nat.le_of_lt (zal (by lia))
   with_reducible refine zah ?_; intro E_ U_
   refine (exg _ rfl ((exg _ rfl ⟨c,rfl,t,exg _ rfl ⟨SqT.of ht6,?_,fun p1 h1=>?_⟩⟩)))
   ·rintro ⟨_,h⟩
    rw [HT.sIx_nat,List.length_map] at h
    lia
   rw [cutN]
   have t1:Same H6 (upd H6 p1 (.tup ((q.1.map V.int).take c))):=(Same.refl H6).upd h1
   have u1:upd H6 p1 (.tup ((q.1.map V.int).take c)) p1 = some (.tup ((q.1.map V.int).take c)):=zab
   generalize upd H6 p1 (.tup ((q.1.map V.int).take c)) = G1 at t1 u1 ⊢
   refine (exg _ rfl ⟨by show 1 ≤ sizeLine; decide,fun p2 h2=>?_⟩)
   have t2:Same G1 (upd G1 p2 (.tup [.int val])):=(Same.refl G1).upd h2
   have u2:upd G1 p2 (.tup [.int val]) p2 = some (.tup [.int val]):=zab
   generalize upd G1 p2 (.tup [.int val]) = G2 at t2 u2 ⊢
   refine catU (t2 _ _ u1) u2 (sz _ (by rw [List.length_take,List.length_map]; simp only [List.length_cons,List.length_nil]; lia)) fun p3 G3 t3 u3=>?_
   refine (exg _ rfl ((exg _ rfl ⟨_,exg _ rfl ⟨rfl,(c + 1:Nat),rfl,t,exg _ rfl ⟨SqT.of ((t1.trans (t2.trans t3)) _ _ ht6),?_,fun p4 h4=>?_⟩⟩⟩)))
   ·rintro ⟨h,_⟩
    rw [HT.sIx_nat,List.length_map] at h
    lia
   rw [cutT]
   have t4:Same G3 (upd G3 p4 (.tup ((q.1.map V.int).drop (c + 1)))):=(Same.refl G3).upd h4
   have u4:upd G3 p4 (.tup ((q.1.map V.int).drop (c + 1))) p4 = some (.tup ((q.1.map V.int).drop (c + 1))):=zab
   generalize upd G3 p4 (.tup ((q.1.map V.int).drop (c + 1))) = G4 at t4 u4 ⊢
   refine catU (t4 _ _ u3) u4 (sz _ (by rw [List.length_append,List.length_take,List.length_drop,List.length_map]; simp only [List.length_cons,List.length_nil]; lia)) fun tr H7 t5 u5=>?_
   rw [zfF (by lia)] at u5
   have s67:Same H6 H7:=t1.trans (t2.trans (t3.trans (t4.trans t5)))
   have I7:=I6.sm s67
   have ht7:=s67 _ _ ht6
   refine zaa ?_; intro G_; obtain ⟨ga,gb,gc⟩:=gt I7.same ht7
   with_reducible refine zai ?_; intro E_ U_ S_
   refine (exg _ rfl ⟨.inr (.inr (.inl ⟨rfl,.inr ⟨_,I7.at'⟩⟩)),exg _ rfl ((exg _ rfl ((exg _ rfl ⟨pd,exg _ rfl ⟨.inr ⟨_,_,t,ga,rfl,gb,hv.symm⟩,q.2.1,rfl,⟨_,SqL.of gc⟩,fun N2 hN2=>litC H7 q _ N2 gc (klen q hq) hN2 fun H8 s8 h8=>?_⟩⟩))))⟩)
   have I8:=I7.sm s8
   refine zc5 I8 h8 (I7.same.free hN2) (nN I7 hN2) ner2 (by lia) (s8 _ _ u5) fun k4 q2 H9 I9 hq2 eq2 sub2 bit9 l4 _ _ tup9=>?_
   have ht9:=tup9 _ _ (s8 _ _ ht7)
   have hq14:q1 ∈ k4:=sub2 _ hq1
   have hl1:=I9.lit q1 hq14
   have ll1:=I9.len q1 hq14
   refine (exg _ rfl ⟨q1.2.1,exg _ rfl ⟨.inl (SqL.of hl1),exg _ rfl ⟨by rw [List.length_map]; lia,by rw [List.length_map,ll1]; lia,?_⟩⟩⟩)
   have en:(((q1.2.2.map V.bl).length:Int)).toNat = n + 1:=by rw [List.length_map,ll1]; lia
   rw [en]
   have sl:∀ H',Same H2 H' → True:=fun _ _=>trivial
   refine zem (n:=n + 1) (fun j σ H'=>∃ (o11:Option V) (k5:Kn),σ = [some (.ref pd),some v,some (.int (c:Int)),some (.int val),some (.int (fi:Int)),some (.int (la:Int)),some (.ref D),some (.ref t),some (.ref q1.2.1),some (.ref tr),some (.ref q2.2.1),o11] ∧ KnI H2 H' D n k5 ∧ k5.map (·.1) = k4.map (·.1) ∧ k5.map (·.2.1) = k4.map (·.2.1) ∧ H' t = some (.tup (q.1.map V.int)) ∧ ∀ k r,k < n + 1 → zaG k5 k r = (zaG k4 k r || (decide (k < j) && chF cd c val fi la kn k r q.1)))
    ⟨_,k4,rfl,I9,rfl,rfl,ht9,fun k r _=>by simp⟩ ?_ ?_
   ·intro J_ E_; intro j σ H' hj h_
    refine zaa ?_; intro G_; obtain ⟨o11',k5,rfl,I',er,ea,ht',bit'⟩:=h_
    refine zaa ?_; intro G_; obtain ⟨ga,gb,gc⟩:=gt I'.same ht'
    have lq:j < q.2.2.length:=by rw [klen q hq]; exact hj
    have bj:zaG kn j q.1 = q.2.2[j]:=by rw [zba,zcl hk.nd hq]; simp [lq]
    have atj:atI (q.2.2.map V.bl) ((0:Int) + (j:Int)) = some (.bl q.2.2[j]):=by rw [Int.zero_add]; exact zaT (by simp [lq])
    refine zaa ?_; intro G_; obtain ⟨p1',hp1,e11,e12⟩:=zjh er ea hq14
    refine zaa ?_; intro G_; obtain ⟨p2',hp2,e21,e22⟩:=zjh er ea hq2
    have setj:∀ (p:List Int × Addr × List Bool) (o8:Nat) (D':Ends) (H'':Hp),p ∈ k5 → Same H' H'' → (∀ r,chF cd c val fi la kn j r q.1 = decide (r = p.1)) → (∀ σ' H'',(∃ (o11:Option V) (k5:Kn),σ' = [some (.ref pd),some v,some (.int (c:Int)),some (.int val),some (.int (fi:Int)),some (.int (la:Int)),some (.ref D),some (.ref t),some (.ref q1.2.1),some (.ref tr),some (.ref q2.2.1),o11] ∧ KnI H2 H'' D n k5 ∧ k5.map (·.1) = k4.map (·.1) ∧ k5.map (·.2.1) = k4.map (·.2.1) ∧ H'' t = some (.tup (q.1.map V.int)) ∧ ∀ k r,k < n + 1 → zaG k5 k r = (zaG k4 k r || (decide (k < j + 1) && chF cd c val fi la kn k r q.1))) → D'.nx σ' H'') →
      ([some (.ref pd),some v,some (.int (c:Int)),some (.int val),some (.int (fi:Int)),some (.int (la:Int)),some (.ref D),some (.ref t),some (.ref q1.2.1),some (.ref tr),some (.ref q2.2.1),some (.int ((0:Int) + (j:Int)))] : St)[o8]? = some (some (.ref p.2.1)) →
      tAsg (tC (.bl true)) (gSub (tVar o8) (tVar 11) zkC) D' [some (.ref pd),some v,some (.int (c:Int)),some (.int val),some (.int (fi:Int)),some (.int (la:Int)),some (.ref D),some (.ref t),some (.ref q1.2.1),some (.ref tr),some (.ref q2.2.1),some (.int ((0:Int) + (j:Int)))] H'':=by
     intro p o8 D' H'' hp s'' hF hN h8
     have I2:=I'.sm s''
     have hlp:=I2.lit p hp
     have llp:=I2.len p hp
     refine ⟨_,h8,exg _ rfl ⟨p.2.1,_,_,j,rfl,rfl,hlp,by rw [Int.zero_add,List.length_map]; exact zmQ (by rw [llp]; lia),?_⟩⟩
     rw [← List.map_set (f:=V.bl) (a:=true)]
     refine hN _ _ ⟨_,exg _ rfl ⟨KnI.setV true I2 hp j,?_,?_,zbd (za3 hlp) _ _ (s'' _ _ ht'),fun k r hk'=>?_⟩⟩
     ·rw [← er,List.map_map]; exact List.map_congr_left fun p _=>by show (if _ then _ else _:List Int × Addr × List Bool).1 = _; split <;> rfl
     ·rw [← ea,List.map_map]; exact List.map_congr_left fun p _=>by show (if _ then _ else _:List Int × Addr × List Bool).2.1 = _; split <;> rfl
     ·rw [zlS I2.nd I2.ad hp (by rw [llp]; exact hk'),bit' k r hk']
      by_cases z:k = j
      ·subst z
       rw [hF r,decide_eq_true (show k = k from rfl),decide_eq_false (show ¬ k < k by lia),decide_eq_true (show k < k + 1 by lia)]
       cases zaG k4 k r <;> simp
      ·rw [decide_eq_false z]
       have:decide (k < j) = decide (k < j + 1):=by rw [Bool.eq_iff_iff,decide_eq_true_iff,decide_eq_true_iff]; lia
       rw [this]; simp
    have stay:∀ (N:St → Hp → Prop) (H'':Hp),Same H' H'' → (∀ r,chF cd c val fi la kn j r q.1 = false) → (∀ σ' H'',(∃ (o11:Option V) (k5:Kn),σ' = [some (.ref pd),some v,some (.int (c:Int)),some (.int val),some (.int (fi:Int)),some (.int (la:Int)),some (.ref D),some (.ref t),some (.ref q1.2.1),some (.ref tr),some (.ref q2.2.1),o11] ∧ KnI H2 H'' D n k5 ∧ k5.map (·.1) = k4.map (·.1) ∧ k5.map (·.2.1) = k4.map (·.2.1) ∧ H'' t = some (.tup (q.1.map V.int)) ∧ ∀ k r,k < n + 1 → zaG k5 k r = (zaG k4 k r || (decide (k < j + 1) && chF cd c val fi la kn k r q.1))) → N σ' H'') →
      N [some (.ref pd),some v,some (.int (c:Int)),some (.int val),some (.int (fi:Int)),some (.int (la:Int)),some (.ref D),some (.ref t),some (.ref q1.2.1),some (.ref tr),some (.ref q2.2.1),some (.int ((0:Int) + (j:Int)))] H'':=by
     intro N H'' s'' hF hN
     refine hN _ _ ⟨_,k5,rfl,I'.sm s'',er,ea,s'' _ _ ht',fun k r hk'=>?_⟩
     rw [bit' k r hk']
     by_cases z:k = j
     ·subst z; rw [hF r]; simp
     ·have:decide (k < j) = decide (k < j + 1):=by rw [Bool.eq_iff_iff,decide_eq_true_iff,decide_eq_true_iff]; lia
      rw [this]
    have els:∀ (H'':Hp) (D':Ends),Same H' H'' → (q.2.2[j] = true → (cd.sem q.1 && decide (fi ≤ j ∧ j ≤ la)) = false) → (∀ σ' H'',(∃ (o11:Option V) (k5:Kn),σ' = [some (.ref pd),some v,some (.int (c:Int)),some (.int val),some (.int (fi:Int)),some (.int (la:Int)),some (.ref D),some (.ref t),some (.ref q1.2.1),some (.ref tr),some (.ref q2.2.1),o11] ∧ KnI H2 H'' D n k5 ∧ k5.map (·.1) = k4.map (·.1) ∧ k5.map (·.2.1) = k4.map (·.2.1) ∧ H'' t = some (.tup (q.1.map V.int)) ∧ ∀ k r,k < n + 1 → zaG k5 k r = (zaG k4 k r || (decide (k < j + 1) && chF cd c val fi la kn k r q.1))) → D'.nx σ' H'') →
      tIfS (tB (tOp (rIxL K) (zhV (tVar 0) (tVar 7)) (tVar 11))) (tAsg (tC (.bl true)) (gSub (tVar 8) (tVar 11) zkC)) zi3 D' [some (.ref pd),some v,some (.int (c:Int)),some (.int val),some (.int (fi:Int)),some (.int (la:Int)),some (.ref D),some (.ref t),some (.ref q1.2.1),some (.ref tr),some (.ref q2.2.1),some (.int ((0:Int) + (j:Int)))] H'':=by
     intro H'' D' s'' hno hN
     refine zaa ?_; intro G_; obtain ⟨ga,gb,gc⟩:=gt (I'.same.trans s'') (s'' _ _ ht')
     refine (exg _ rfl ((exg _ rfl ⟨pd,exg _ rfl ⟨.inr ⟨_,_,t,ga,rfl,gb,hv.symm⟩,exg _ rfl ⟨q.2.1,_,_,exg _ rfl ⟨rfl,SqL.of gc,atj,exg _ rfl ?_⟩⟩⟩⟩)))
     cases hb:q.2.2[j] with
     | false=>exact iteF (stay D'.nx H'' s'' (fun r=>by unfold chF; rw [bj,hb]; simp) hN)
     | true =>
      refine iteT (setj p1' 8 D' H'' hp1 s'' (fun r=>?_) hN (by rw [e12]; rfl))
      unfold chF
      rw [bj,hb,hno hb,e11,eq1]
      simp
    refine (exg _ rfl ((exg _ rfl ⟨pd,exg _ rfl ⟨.inr ⟨_,_,t,ga,rfl,gb,hv.symm⟩,exg _ rfl ⟨q.2.1,_,_,exg _ rfl ⟨rfl,SqL.of gc,atj,exg _ rfl ?_⟩⟩⟩⟩)))
    cases hb:q.2.2[j] with
    | false=>exact iteF (iteF (els H' _ (Same.refl _) (fun z=>by rw [hb] at z; cases z) fun σ' H'' h=>h))
    | true =>
     refine iteT (exg _ rfl ((exg _ rfl ⟨_,exg _ rfl ⟨rfl,exg _ rfl ?_⟩⟩)))
     refine ite2 (fun c1=>?_) (fun c1=>iteF (els H' _ (Same.refl _) (fun _=>by
      have : ¬ (fi:Int) ≤ 0 + (j:Int):=fun z=>c1 (decide_eq_true z)
      rw [decide_eq_false (by lia)]; simp) fun σ' H'' h=>h))
     refine (exg _ rfl ((exg _ rfl ⟨_,exg _ rfl ⟨rfl,exg _ rfl ?_⟩⟩)))
     refine ite2 (fun c2=>?_) (fun c2=>iteF (els H' _ (Same.refl _) (fun _=>by
      have : ¬ 0 + (j:Int) ≤ (la:Int):=fun z=>c2 (decide_eq_true z)
      rw [decide_eq_false (by lia)]; simp) fun σ' H'' h=>h))
     have d1:(fi:Int) ≤ 0 + (j:Int):=of_decide_eq_true c1
     have d2:0 + (j:Int) ≤ (la:Int):=of_decide_eq_true c2
     refine (exg _ rfl ((exg _ rfl ⟨v,_,cd,q.1,rfl,CondAt.same I'.same cv2,⟨t,rfl,ht'⟩,by rw [wq]; exact cok,cdp,fun H'' s''=>(exg _ rfl ?_)⟩)))
     cases hsm:cd.sem q.1 with
     | false=>exact iteF (els H'' _ s'' (fun _=>by rw [hsm]; rfl) fun σ' H'' h=>h)
     | true =>
      refine iteT (setj p2' 10 _ H'' hp2 s'' (fun r=>?_) (fun σ' H'' h=>h) (by rw [e22]; rfl))
      unfold chF
      rw [bj,hb,hsm,decide_eq_true (show fi ≤ j ∧ j ≤ la by lia),e21,eq2]
      simp
   ·intro σ H' h_
    refine zaa ?_; intro G_; obtain ⟨o11',k5,rfl,I',er,ea,ht',bit'⟩:=h_
    refine ⟨_,_,_,_,_,k5,rfl,I',?_,fun k r hk'=>?_⟩
    ·have:=congrArg List.length er
     rw [List.length_map,List.length_map] at this
     lia
    ·rw [bit' k r hk',bit9,bit6,bits k r hk',take_snoc hrow,List.any_append,decide_eq_true hk']
     simp
  ·intro σ H' h_
   refine zaa ?_; intro G_; obtain ⟨o7,o8,o9,o10,o11,k2,rfl,I,l2,bits⟩:=h_
   rw [List.take_of_length_le (Nat.le_refl _)] at bits
   rw [List.length_map] at l2
   exact (exg _ rfl (fin D H' k2 (fun b u e ne=>I.same _ _ (off2 b u e ne)) hD I.known I.len (by lia) bits))
end
section
variable {P:Program} {w:World} {K:PySem.W.Frag} {mg:Str → Option Value} {base:Heap}
def zbt:Sp:=fun vs H Q _=>∃ (a pg:Addr) (v:V) (d:Int) (es:List Ent) (cd:Cond) (g:List Int),vs = [.ref a,v,.ref pg,.int d] ∧ SheetAt H a es ∧ CondAt H v cd ∧ H pg = some (.lst (g.map V.int)) ∧ Inc g ∧ 0 < g.length ∧ ∀ H',Q (.bl true) H'
theorem zcd:FnScope ["_law_sheet_here","_law_condition_here","_law_grid_here","_law_drawn","_law_last","_law_error","e"] ["_law_sheet_here","_law_condition_here","_law_grid_here","_law_drawn"] (zae zbl):=⟨rfl,rfl,rfl,by decide +kernel,rfl,by decide +kernel,by decide +kernel⟩
theorem zd0 {f WE:Addr} {c:Nat → Addr} {fd:FuncData} {tT tM:LSite} {Ls:List LSite} (F:Fun K "_law_refused" "_law_refused" zbl f fd) (B:Blts mg) (O:Errs K mg WE c) (FM:FnP P w K mg base 1 "_law_mix" ["_law_cell","_law_j"] zhX)
  (FC:FnX P w K mg base 6 "change" ["sheet","condition","column","value","start","end"] (zcK (c 0) tT tM Ls)) : FnOk P w K mg base CX0 7 f fd ["_law_sheet_here","_law_condition_here","_law_grid_here","_law_drawn"] zbt:=by
 refine F.okJL zcd (fun vs H Q E h=>?_) (fun cdv A outer s H vs Q E hr h=>?_)
 ·refine zaa ?_; intro G_; obtain ⟨_,_,_,_,_,_,_,rfl,_⟩:=h
  rfl
 ·intro X_ D_; refine zaa ?_; intro G_; obtain ⟨a,pg,v,d,es,cd,g,rfl,hs,hc,hg,inc,g1,k⟩:=h
  have nd:=zcd.nd
  refine ⟨_,(zac (zam 4 nd (e_op zaK (e_fn FM hr (ac (e_v 3) (a1 e_i))) (e_cb zdp B.len PySem.boot_len (a1 (e_v 2)))))
   (zac (zam 5 nd e_n)
   (zac (znb 5 6 (x_fn FC hr (ac (e_v 0) (ac (e_v 1) (ac e_i (ac e_i (ac (e_ix zaR (e_v 2) (e_v 4)) (a1 (e_ix zaR (e_v 2) (e_op zaK (e_fn FM hr (ac (e_v 3) (a1 e_i))) (e_op zbb (e_v 4) e_i)))))))))) O.when nd)
   (zac (s_if (zcy (e_cb zm9 B.isinstance PyProof.Rows.boot_isinstance (ac (e_v 5) (a1 (za5 (ac (zgt O.bW) (ac (zgt O.bT) (ac (zgt O.bC) (ac (zgt O.bX) (ac (zgt O.bN) (a1 (zgt O.bR)))))))))))) (zaj (zas e_b)) zaW)
   (zaj (zas (zgF (e_cb znn B.isinstance PyProof.Rows.boot_isinstance (ac (e_v 5) (a1 (zgt O.bS)))) (zd6 (e_cb znn B.isinstance PyProof.Rows.boot_isinstance (ac (e_v 5) (a1 (e_ty O.ve zdF)))))))))))),?_⟩
  have lg:((g.map V.int).length:Int) = (g.length:Int):=by rw [List.length_map]
  with_reducible refine zah ?_; intro E_ U_
  refine (exg _ rfl ⟨d,74,rfl,by decide,by decide,fun r1 _=>(exg _ rfl ⟨pg,exg _ rfl ⟨.inl (SqL.of hg),_,exg _ rfl ⟨rfl,by rw [lg]; lia,?_⟩⟩⟩)⟩)
  obtain ⟨la,ela,hla⟩:=zff (r:=r1) (n:=g.length) g1
  dsimp only [zaL]
  rw [lg,ela]
  with_reducible refine zah ?_; intro E_ U_
  refine (exg _ rfl ((exg _ rfl ((exg _ rfl ((exg _ rfl ⟨pg,_,_,exg _ rfl ⟨rfl,SqL.of hg,zby hla,exg _ rfl ((exg _ rfl ⟨d,75,rfl,by decide,by decide,fun r2 _=>(exg _ rfl ⟨_,exg _ rfl ⟨rfl,_,exg _ rfl ⟨rfl,by lia,?_⟩⟩⟩)⟩))⟩⟩)))))))
  refine zaa ?_; intro G_; obtain ⟨lb,elb,hlb⟩:=zff (r:=r2) (n:=la + 1) (by lia)
  have hlb':lb < g.length:=by lia
  refine ⟨pg,_,_,.int g[lb],rfl,rfl,SqL.of hg,?_,?_⟩
  ·have:r2 % ((la:Int) + 1) = (lb:Int):=elb
   show atI _ (r2 % ((la:Int) + 1)) = _
   rw [this]
   exact zby hlb'
  have no : ¬ okS ((some g[la],some g[lb]) : Stt):=fun z=>by
   have z':g[la] < g[lb]:=z _ _ rfl rfl
   have le:g[lb] ≤ g[la]:=by
    rcases Nat.lt_or_ge lb la with h | h
    ·exact Int.le_of_lt (List.pairwise_iff_getElem.mp inc lb la hlb' hla h)
    ·have:lb = la:=by lia
     subst this; exact Int.le_refl _
   lia
  refine ⟨a,v,es,cd,0,1,(some g[la],some g[lb]),rfl,hs,hc,fun _=>⟨O.mt 0 (by decide),fun e he=>?_⟩,fun ok=>absurd ok no⟩
  have he1:upd H e (excO e (.ref (c 0))) e = some (excO e (.ref (c 0))):=zab
  generalize upd H e (excO e (.ref (c 0))) = H1 at he1 ⊢
  with_reducible refine zah ?_; intro E_ U_
  refine (exg _ rfl ⟨by show 6 ≤ sizeLine; decide,fun tp htp=>?_⟩)
  have s2:Same H1 (upd H1 tp (.tup [.ref (c 1),.ref (c 2),.ref (c 3),.ref (c 4),.ref (c 5),.ref (c 6)])):=(Same.refl H1).upd htp
  have u2:upd H1 tp (.tup [.ref (c 1),.ref (c 2),.ref (c 3),.ref (c 4),.ref (c 5),.ref (c 6)]) tp = some (.tup ([c 1,c 2,c 3,c 4,c 5,c 6].map V.ref)):=zab
  generalize upd H1 tp (.tup [.ref (c 1),.ref (c 2),.ref (c 3),.ref (c 4),.ref (c 5),.ref (c 6)]) = H2 at s2 u2 ⊢
  have he2:=s2 _ _ he1
  have ty:TyE K H2 (.ref e) (.ref (c 0)):=.inr ⟨e,c 0,rfl,rfl,he2,O.ek 0 (by decide)⟩
  refine ⟨e,c 0,tp,_,false,rfl,he2,O.ek 0 (by decide),SqT.of u2,ziX O,exg _ rfl (iteF ?_)⟩
  refine (exg _ rfl ⟨_,_,_,exg _ rfl ⟨.inl ⟨_,rfl⟩,ty,O.kit 0 (by decide) 0 (by decide),exg _ rfl ?_⟩⟩)
  exact iteT (exg _ rfl ⟨_,_,_,exg _ rfl ⟨.inr ⟨_,rfl⟩,ty,O.val 0 (by decide),k _⟩⟩)
end
theorem ziE {kn:Kn} {k:Nat} {r:List Int} (h:zaG kn k r = true) : r ∈ kn.map (·.1):=by
 by_cases z:r ∈ kn.map (·.1)
 ·exact z
 ·rw [zba,lit_none z] at h; simp at h
section
variable {P:Program} {w:World} {K:PySem.W.Frag} {mg:Str → Option Value} {base:Heap}
def zgS (K:PySem.W.Frag) (tT tM:LSite) : Sp:=fun vs H Q _=>∃ (a:Addr) (ns:List Int),vs = [.ref a] ∧ SqL K H a (ns.map V.int) ∧ ns.length ≤ 63 ∧ tT.Ok H ∧ tM.Ok H ∧ ∀ H',Q (.bl true) H'
theorem zlc:FnScope ["_law_script","_law_cells","_law_drawn","_law_grid_here","_law_known","_law_cell","_law_lit","_law_sheet_here","_law_kept","_law_condition_here","_law_column","_law_value","_law_first","_law_last","_law_start","_law_end","_law_due","_law_found","_law_part_here"] ["_law_script"] (zae zen):=⟨rfl,rfl,rfl,by decide +kernel,rfl,by decide +kernel,by decide +kernel⟩
theorem znl {f:Addr} {c:Nat → Addr} {fd:FuncData} {tT tM:LSite} {Ls:List LSite} (tmT:tT ∈ Ls) (tmM:tM ∈ Ls) (F:Fun K "law" "law" zen f fd) (B:Blts mg) (FM:FnP P w K mg base 1 "_law_mix" ["_law_cell","_law_j"] zhX) (FMF:FnP P w K mg base 1 "_law_mix" ["_law_cell","_law_j"] zdO) (FG:FnP P w K mg base 2 "_law_grid" ["_law_cell"] zjy)
  (FT:FnP P w K mg base 1 "_law_stretch" ["_law_grid_here","_law_first","_law_last"] ziW) (FH:FnP P w K mg base 3 "_law_sheet" ["_law_grid_here","_law_known"] zbR) (FR:FnP P w K mg base 3 "_law_row" ["_law_drawn","_law_number"] zcC) (FN:FnP P w K mg base 2 "_law_numbers" ["_law_drawn"] zaM)
  (FC:FnP P w K mg base 6 "_law_condition" ["_law_drawn","_law_number","_law_deep"] (zjB 3)) (FE:FnP P w K mg base 5 "_law_changed" ["_law_known","_law_condition_here","_law_column","_law_value","_law_first","_law_last"] zbq)
  (FF:FnP P w K mg base 7 "_law_refused" ["_law_sheet_here","_law_condition_here","_law_grid_here","_law_drawn"] zbt) (FU:FnX P w K mg base 6 "change" ["sheet","condition","column","value","start","end"] (zcK (c 0) tT tM Ls)) : FnOk P w K mg base CX0 8 f fd ["_law_script"] (zgS K tT tM):=by
 refine F.okJL zlc (fun vs H Q E h=>?_) (fun cdv A outer s H vs Q E hr h=>?_)
 ·refine zaa ?_; intro G_; obtain ⟨a,ns,rfl,_⟩:=h
  rfl
 ·intro X_ D_; refine zaa ?_; intro G_; obtain ⟨a,ns,rfl,hS,h63,tok,tok',k⟩:=h
  have nd:=zlc.nd
  have nd1:(["_law_k"] : List Str).Nodup:=by decide +kernel
  refine ⟨_,(zac (zam 1 nd (zlv (e_v 0) e_i))
   (zac (zam 2 nd (e_cb zov B.sum PyProof.Rows.boot_sum (a1 (e_v 1))))
   (zac (zam 3 nd (e_fn FG hr (a1 (e_v 2))))
   (zac (zjc 4 nd zgr)
   (zac (zc3 (zbe (e_v 1)) (g_n 5 nd)
    (zac (zam 6 nd (zdv hr (e_v 4) (ac (e_fn FR hr (ac (e_v 2) (a1 (e_op zaK (e_fn FM hr (ac (e_v 5) (a1 e_i))) e_i)))) (acn (zcL (Nc:=["_law_k"]) (js:=[none]) (g:=(zaL 0)) (tt:=tYes) (te:=(tC (.bl false)))
   (zbL rfl rfl rfl rfl (fun x c h=>by cases h) rfl rfl rfl) (zib B.range (a1 (e_op zbb (e_cb zdp B.len PySem.boot_len (a1 (e_v 3))) e_i)))
   (fun pins C s3 H3 fp=>⟨(g_n 0 nd1),.inl ⟨rfl,rfl⟩,e_b⟩)) a0))))
    (zaj (zi7 e_b (zkz (e_v 6) (e_op zaK (e_fn FM hr (ac (e_v 5) (a1 e_i))) (e_cb zdp B.len PySem.boot_len (a1 (e_v 6)))) zhb)))))
   (zac (zam 7 nd (e_fn FH hr (ac (e_v 3) (a1 (e_v 4)))))
   (zac (zam 8 nd (e_fn FH hr (ac (e_v 3) (a1 (e_v 4)))))
   (zac (zam 9 nd (e_fn FC hr (ac (e_v 2) (ac (e_v 2) (a1 e_i)))))
   (zac (zam 10 nd (e_op zaK (e_fn FM hr (ac (e_v 2) (a1 e_i))) (e_op zbb e_i (e_op zaK (e_fn FMF hr (ac (e_v 2) (a1 e_i))) e_i))))
   (zac (zam 11 nd (e_ix zaR (e_op zoB (e_fn FN hr (a1 (e_v 2))) (zbT (a1 e_i))) (e_op zaK (e_fn FM hr (ac (e_v 2) (a1 e_i))) e_i)))
   (zac (zam 12 nd (e_op zaK (e_fn FM hr (ac (e_v 2) (a1 e_i))) (e_op zbb (e_cb zdp B.len PySem.boot_len (a1 (e_v 3))) e_i)))
   (zac (zam 13 nd (e_cb zoq B.min PyProof.Rows.boot_min (ac (e_cb zdp B.len PySem.boot_len (a1 (e_v 3))) (a1 (e_op zbb (e_v 12) (e_op zaK (e_fn FM hr (ac (e_v 2) (a1 e_i))) (e_ix zaR (zbT (ac e_i (ac e_i (a1 e_i)))) (e_op zaK (e_fn FM hr (ac (e_v 2) (a1 e_i))) e_i))))))))
   (zac (zi7 (e_fn FT hr (ac (e_v 3) (ac (e_v 12) (a1 (e_v 13))))) (zfA (zaO (g_n 14 nd) (zaO (g_n 15 nd) zc9))))
   (zac (zam 16 nd (e_fn FH hr (ac (e_v 3) (a1 (e_fn FE hr (ac (e_v 4) (ac (e_v 9) (ac (e_v 10) (ac (e_v 11) (ac (e_v 12) (a1 (e_v 13))))))))))))
   (zac (zam 17 nd ((x_fn FU hr (ac (e_v 7) (ac (e_v 9) (ac (e_v 10) (ac (e_v 11) (ac (e_v 14) (a1 (e_v 15)))))))).je zll))
   (zac (s_if (JW.jt (w_or (zh0 (zcy (e_cb zlX B.isinstance PyProof.Rows.boot_isinstance (ac (e_v 17) (a1 (e_ty B.list PyProof.Rows.boot_list)))))) (w_or (zaZ (zkY hr) (e_v 17) (e_v 16)) (zkG (zaZ (zkY hr) (e_v 7) (e_v 8)))))) (zaj (zas e_b)) zaW)
   (zac (zc3 (zbe (e_v 17)) (g_n 18 nd)
    (zac (s_if (JW.jt (w_or (zh0 (zcy (e_cb zlX B.isinstance PyProof.Rows.boot_isinstance (ac (e_v 18) (a1 (e_ty B.tuple PyProof.Rows.boot_tuple)))))) (zkG (zh0 (zcy (e_cb zlX B.isinstance PyProof.Rows.boot_isinstance (ac (e_ix zaw (e_v 18) e_i) (a1 (e_ty B.list PyProof.Rows.boot_list))))))))) (zaj (zas e_b)) zaW)
    (zaj (zd4 (e_ix zaw (e_v 18) e_i) e_n))))
   (zac (zd4 (e_v 17) e_n)
   (zac (s_if (JW.jt (w_or (zaZ (zkY hr) (e_v 7) (e_v 8)) (zkG (zaZ (zkY hr) ((x_fn FU hr (ac (e_v 7) (ac (e_v 9) (ac (e_v 10) (ac (e_v 11) (ac (e_v 14) (a1 (e_v 15)))))))).je zll) (e_v 16))))) (zaj (zas e_b)) zaW)
   (zaj (zas (zgF (zdh (zos hr) (e_v 9) (e_fn FC hr (ac (e_v 2) (ac (e_v 2) (a1 e_i))))) (zd6 (e_fn FF hr (ac (e_v 7) (ac (e_v 9) (ac (e_v 3) (a1 (e_v 2))))))))))))))))))))))))))))),?_⟩
  with_reducible refine zah ?_; intro E_ U_
  refine (exg _ rfl ⟨63,rfl,a,exg _ rfl ⟨hS,fun pc hpc=>?_⟩⟩)
  have e63:cutV (ns.map V.int) none (some 63) = (ns.take 63).map V.int:=zhg ns 63
  rw [e63]
  have s1:Same H (upd H pc (.lst ((ns.take 63).map V.int))):=(Same.refl H).upd hpc
  have tok1:=LamOk.same tok s1
  have tok1':=LamOk.same tok' s1
  have c63:(ns.take 63).length ≤ 63:=by rw [List.length_take]; lia
  generalize ns.take 63 = cs at s1 c63 tok1 tok1' ⊢
  have hc1:upd H pc (.lst (cs.map V.int)) pc = some (.lst (cs.map V.int)):=zab
  generalize upd H pc (.lst (cs.map V.int)) = H1 at s1 hc1 tok1 tok1' ⊢
  with_reducible refine zai ?_; intro E_ U_ S_
  refine (exg _ rfl ⟨pc,cs,rfl,SqL.of hc1,?_⟩)
  dsimp only [zaL]
  generalize cs.sum = dr
  with_reducible refine zah ?_; intro E_ U_
  refine (exg _ rfl ((exg _ rfl (fun pg H2 g sm2 hpg hg inc g2 g39 gb=>?_))))
  have hc2:=sm2 _ _ hc1
  have rlb:=zcE dr
  have en:(((g.map V.int).length:Int) + 1).toNat = g.length + 1:=by rw [List.length_map]; lia
  have litC:∀ (H2:Hp) (Q':VK) (D:Addr),H2 D = none → (∀ H3,Same H2 H3 → H3 D = some (.lst ((List.replicate (g.length + 1) false).map V.bl)) → Q' (.ref D) H3) → zdE (Itr 0 (((g.map V.int).length:Int) + 1).toNat) (zaL 0) tYes (tC (.bl false)) D Q' [none] (upd H2 D (.lst [])):=by
   intro H2 Q' D hD hq
   rw [en]
   refine zgH (n:=g.length + 1) (fun i σ H3=>∃ o,σ = [o] ∧ Same H2 H3 ∧ H3 D = some (.lst (List.replicate i (V.bl false)))) ⟨none,rfl,(Same.refl _).upd hD,zab⟩ ?_ ?_
   ·intro J_; intro i σ H3 hi h_
    refine zaa ?_; intro G_; obtain ⟨o,rfl,sm,h3⟩:=h_
    refine ⟨_,h3,zal (by rw [List.length_replicate]; lia),exg _ rfl ⟨sm.upd hD,?_⟩⟩
    rw [zab,List.replicate_succ']
   ·intro σ H3 h_
    refine zaa ?_; intro G_; obtain ⟨o,rfl,sm3,hl3⟩:=h_
    rw [zlB] at hl3
    exact hq H3 sm3 hl3
  refine fun pd hpd=>?_
  have kn0:KnI H2 (upd H2 pd (.dT [])) pd g.length []:=⟨zab,.nil,(fun q h=>nomatch h),(fun q h=>nomatch h),.nil,(fun q h=>nomatch h),(fun q h=>nomatch h),(Same.refl H2).upd hpd,hpd⟩
  with_reducible refine zai ?_; intro E_ U_ S_
  refine ⟨_,rfl,pc,rfl,⟨_,SqL.of (kn0.same _ _ hc2)⟩,za1 (K:=K) (a:=pc) (xs:=cs.map V.int) (fun i σ H'=>∃ (kn:Kn) (o5 o6:Option V),σ = [some (.ref a),some (.ref pc),some (.int dr),some (.ref pg),some (.ref pd),o5,o6,none,none,none,none,none,none,none,none,none,none,none,none] ∧ KnI H2 H' pd g.length kn ∧ kn.length ≤ i ∧ (∀ q ∈ kn,q.1 ∈ (List.range 27).map fun n:Nat=>rowF dr (n:Int)) ∧ cntS kn ≤ i)
   ⟨[],none,none,rfl,kn0,Nat.le_refl _,(fun q h=>nomatch h),Nat.le_refl _⟩ (by rintro i σ H' _ ⟨_,_,_,_,h,_⟩; exact SqL.of (h.same _ _ hc2)) ?_ ?_⟩
  ·intro J_ E_; intro i x σ H' hx h_
   refine zaa ?_; intro G_; obtain ⟨kn,o5,o6,rfl,I,hkl,wk,ck⟩:=h_
   obtain ⟨cell,rfl⟩:=zoe hx
   have hi:i < cs.length:=by simpa using (List.getElem?_eq_some_iff.mp hx).1
   with_reducible refine zai ?_; intro E_ U_ S_
   refine (exg _ rfl ⟨.inr (.inr (.inl ⟨rfl,.inr ⟨_,I.at'⟩⟩)),exg _ rfl ((exg _ rfl ⟨cell,50,rfl,by decide,by decide,fun r1 hr1=>⟨_,exg _ rfl ⟨rfl,pz,dr,exg _ rfl (fun t H3 s3 ht h3=>?_)⟩⟩⟩))⟩)
   have I3:=I.sm s3
   have hg3:=I3.same _ _ hg
   refine (exg _ rfl ⟨pg,exg _ rfl ⟨.inl (SqL.of hg3),_,exg _ rfl ⟨rfl,exg _ rfl ⟨by rw [List.length_map]; lia,by rw [List.length_map]; lia,fun D hD=>litC H3 _ D hD fun H4 s4 h4=>?_⟩⟩⟩⟩)
   have I4:=I3.sm s4
   have nD:D ∉ kn.map (·.2.1):=fun z=>by
    refine zaa ?_; intro G_; obtain ⟨q,hq,e⟩:=List.mem_map.mp z
    have:=I3.lit q hq
    rw [e,hD] at this
    cases this
   have ner:rowF dr (r1 % 27) ≠ []:=fun z=>by have:=zgR dr (r1 % 27); rw [z] at this; simp at this; lia
   refine zc5 I4 h4 (I3.same.free hD) nD ner (by lia) (s4 _ _ h3) fun k3 q H5 I5 hq eq sub bits l3 rows3 cnt3 tup5=>?_
   have hl:=I5.lit q hq
   have ll:=I5.len q hq
   refine (exg _ rfl ((exg _ rfl ⟨cell,51,rfl,by decide,by decide,fun r2 hr2=>?_⟩)))
   have pos0:(0:Int) < ((q.2.2.map V.bl).length:Int):=by rw [List.length_map,ll]; lia
   have h1:=Int.emod_nonneg r2 (show ((q.2.2.map V.bl).length:Int) ≠ 0 by lia)
   have h2:=Int.emod_lt_of_pos r2 pos0
   refine (exg _ rfl ⟨q.2.1,exg _ rfl ⟨.inl (SqL.of hl),_,exg _ rfl ⟨rfl,pos0,q.2.1,_,_,(r2 % ((q.2.2.map V.bl).length:Int)).toNat,rfl,rfl,hl,?_,?_⟩⟩⟩)
   ·unfold ixN
    rw [if_pos h1,if_pos h2]
   ·rw [← List.map_set (f:=V.bl) (a:=true)]
    refine ⟨_,_,exg _ rfl ⟨KnI.setV true I5 hq _,by rw [List.length_map]; lia,fun p hp=>?_,by have:=zhd (a:=q.2.1) (j:=(r2 % ((q.2.2.map V.bl).length:Int)).toNat) I5.ad; lia⟩⟩
    have wk3:∀ p ∈ k3,p.1 ∈ (List.range 27).map fun n:Nat=>rowF dr (n:Int):=fun p hp=>by
     rcases rows3 p hp with z | z
     ·obtain ⟨p',hp',e⟩:=List.mem_map.mp z
      rw [← e]; exact wk p' hp'
     ·have m1:=Int.emod_nonneg r1 (show (27:Int) ≠ 0 by decide)
      have m2:=Int.emod_lt_of_pos r1 (show (0:Int) < 27 by decide)
      exact List.mem_map.mpr ⟨(r1 % 27).toNat,List.mem_range.mpr (by lia),by rw [z,Int.toNat_of_nonneg m1]⟩
    obtain ⟨p,hp1,rfl⟩:=List.mem_map.mp hp
    split
    ·exact wk3 p hp1
    ·exact wk3 p hp1
  intro σ H3 h_
  refine zaa ?_; intro G_; obtain ⟨kn,o5,o6,rfl,I3,hkl,wk0,ck⟩:=h_
  rw [List.length_map] at hkl ck
  have wk:∀ q ∈ kn,q.1.length = zaz dr:=fun q hq=>by
   obtain ⟨n,_,e⟩:=List.mem_map.mp (wk0 q hq)
   rw [← e]; exact zgR dr n
  have k27:kn.length ≤ 27:=by
   have:=zaP I3.nd (m:=(List.range 27).map fun n:Nat=>rowF dr (n:Int)) fun r hr=>by obtain ⟨q,hq,rfl⟩:=List.mem_map.mp hr; exact wk0 q hq
   rw [List.length_map,List.length_map,List.length_range] at this
   exact this
  with_reducible refine zah ?_; intro E_ U_
  refine (exg _ rfl ((exg _ rfl ⟨pg,pd,g,kn,rfl,I3.same _ _ hg,inc,by lia,g39,I3.known,I3.len,by lia,fun pa H4 es s4 hpa shA phA fewA subA=>?_⟩)))
  with_reducible refine zai ?_; intro E_ U_ S_
  refine (exg _ rfl ((exg _ rfl ⟨pg,pd,g,kn,rfl,s4 _ _ (I3.same _ _ hg),inc,by lia,g39,I3.known.same s4,I3.len,by lia,fun pk H5 es' s5 hpk shK phK fewK subK=>?_⟩)))
  obtain rfl:es' = es:=phK.uniq phA fun r m=>rfl
  have s35:=s4.trans s5
  have I5:=I3.sm s35
  with_reducible refine zai ?_; intro E_ U_ S_
  refine (exg _ rfl ((exg _ rfl ⟨dr,dr,rfl,fun pv H6 s6 hpv cv=>?_⟩)))
  have cok:(zbf dr dr 3).ok (zaz dr):=zch dr 3 dr
  have cdp:(zbf dr dr 3).deep < 4:=by have:=zc4 dr 3 dr; lia
  generalize hcd:zbf dr dr 3 = cd at cv cok cdp
  have I6:=I5.sm s6
  have hg6:=I6.same _ _ hg
  have ec:1 + mixF dr 61 % 5 = (zaz dr:Int):=by
   have:=Int.emod_nonneg (mixF dr 61) (show (5:Int) ≠ 0 by decide)
   unfold zaz
   lia
  with_reducible refine zai ?_; intro E_ U_ S_
  refine (exg _ rfl ⟨dr,66,rfl,by decide,by decide,fun r5 hr5=>(exg _ rfl ⟨dr,61,rfl,by decide,by decide,_,exg _ rfl ⟨rfl,pz,_,exg _ rfl ⟨rfl,_,exg _ rfl ⟨rfl,by show (0:Int) < 1 + mixF dr 61 % 5; lia,?_⟩⟩⟩⟩)⟩)
  obtain ⟨co,eco,hco⟩:=zff (r:=r5) (n:=zaz dr) (by lia)
  dsimp only [zaL]
  rw [ec,eco]
  with_reducible refine zah ?_; intro E_ U_
  refine (exg _ rfl ⟨dr,rfl,fun p5 H5a s5a hp5 g5=>⟨by show 1 ≤ sizeLine; decide,fun p6 h6=>?_⟩⟩)
  have t6:Same H5a (upd H5a p6 (.lst [.int 5])):=(Same.refl H5a).upd h6
  have u6:upd H5a p6 (.lst [.int 5]) p6 = some (.lst [.int 5]):=zab
  generalize upd H5a p6 (.lst [.int 5]) = H5b at t6 u6 ⊢
  refine ⟨p5,p6,_,exg _ rfl ⟨rfl,t6 _ _ g5,u6,Nat.le_trans (show ((numF dr).map V.int).length + 1 ≤ 100 by rw [List.length_map,zdr]; decide) (by decide),fun p7 h7=>?_⟩⟩
  have t7:Same H5b (upd H5b p7 (.lst ((numF dr).map V.int ++ [.int 5]))):=(Same.refl H5b).upd h7
  have u7:upd H5b p7 (.lst ((numF dr).map V.int ++ [.int 5])) p7 = some (.lst ((numF dr ++ [5]).map V.int)):=by rw [zab,List.map_append]; rfl
  generalize upd H5b p7 (.lst ((numF dr).map V.int ++ [.int 5])) = H5c at t7 u7 ⊢
  have s56:Same H6 H5c:=s5a.trans (t6.trans t7)
  refine (exg _ rfl ⟨dr,67,rfl,by decide,by decide,fun r6 hr6=>⟨_,exg _ rfl ⟨rfl,pz,?_⟩⟩⟩)
  have q1:0 ≤ r6 % 4:=Int.emod_nonneg _ (by decide)
  have q2:r6 % 4 < 4:=Int.emod_lt_of_pos _ (by decide)
  refine zaa ?_; intro G_; obtain ⟨val,_,eval⟩:=zdu (ns:=numF dr ++ [5]) q1 (by simpa [zdr] using q2)
  refine ⟨p7,_,_,exg _ rfl ⟨rfl,SqL.of u7,eval,?_⟩⟩
  replace cv:=CondAt.same s56 cv
  replace I6:=I6.sm s56
  have hg6':=s56 _ _ hg6
  have s6':=s6.trans s56
  clear eval u7 u6 t6 t7 g5 hg6 s6 s5a s56 hp5 h7
  generalize H5c = H6 at *
  have hg6:=hg6'
  have s6:=s6'
  with_reducible refine zai ?_; intro E_ U_ S_
  refine (exg _ rfl ⟨dr,63,rfl,by decide,by decide,fun r2 hr2=>(exg _ rfl ⟨pg,exg _ rfl ⟨.inl (SqL.of hg6),_,exg _ rfl ⟨rfl,_,exg _ rfl ⟨rfl,by rw [List.length_map]; lia,?_⟩⟩⟩⟩)⟩)
  obtain ⟨fi,efi,hfi⟩:=zff (r:=r2) (n:=g.length + 1) (by lia)
  have e1:(((g.map V.int).length:Int) + 1) = ((g.length + 1:Nat) : Int):=by rw [List.length_map]; lia
  dsimp only [zaL]
  rw [e1,efi]
  with_reducible refine zah ?_; intro E_ U_
  refine (exg _ rfl ⟨pg,exg _ rfl ⟨.inl (SqL.of hg6),exg _ rfl ((exg _ rfl ⟨dr,64,rfl,by decide,by decide,fun r3 hr3=>⟨by show 3 ≤ sizeLine; decide,fun p1 hp1=>(exg _ rfl ⟨dr,65,rfl,by decide,by decide,fun r4 hr4=>⟨_,exg _ rfl ⟨rfl,pz,?_⟩⟩⟩)⟩⟩))⟩⟩)
  have m1:0 ≤ r4 % 3:=Int.emod_nonneg _ (by decide)
  have m2:r4 % 3 < 3:=Int.emod_lt_of_pos _ (by decide)
  refine zaa ?_; intro G_; obtain ⟨wd,hwd,ewd⟩:=zdu (ns:=[1,3,40]) m1 (by simpa using m2)
  have wd0:0 < wd:=by simp at hwd; lia
  refine ⟨p1,_,_,exg _ rfl ⟨rfl,SqL.of zab,ewd,_,exg _ rfl ⟨rfl,wd0,_,exg _ rfl ⟨rfl,_,exg _ rfl ?_⟩⟩⟩⟩
  have s7:Same H6 (upd H6 p1 (.lst [.int 1,.int 3,.int 40])):=(Same.refl H6).upd hp1
  generalize upd H6 p1 (.lst [.int 1,.int 3,.int 40]) = H7 at s7 ⊢
  obtain ⟨la,ela,hfl,hlg⟩ : ∃ la:Nat,(if (fi:Int) + r3 % wd < ((g.map V.int).length:Int) then (fi:Int) + r3 % wd else ((g.map V.int).length:Int)) = (la:Int) ∧ fi ≤ la ∧ la ≤ g.length:=by
   rw [List.length_map]
   have h0:=Int.emod_nonneg r3 (show wd ≠ 0 by lia)
   by_cases z:(fi:Int) + r3 % wd < (g.length:Int)
   ·rw [if_pos z]; exact ⟨((fi:Int) + r3 % wd).toNat,by lia,by lia,by lia⟩
   ·rw [if_neg z]; exact ⟨g.length,rfl,by lia,Nat.le_refl _⟩
  dsimp only [zaL]
  rw [ela]
  have I7:=I6.sm s7
  have hg7:=s7 _ _ hg6
  with_reducible refine zah ?_; intro E_ U_
  refine (exg _ rfl ((exg _ rfl ((exg _ rfl ⟨pg,g,fi,la,rfl,hg7,by lia,fun t2 ht2=>?_⟩)))))
  have s8:Same H7 (upd H7 t2 (.tup [vO (stt g fi la).1,vO (stt g fi la).2])):=(Same.refl H7).upd ht2
  have u8:upd H7 t2 (.tup [vO (stt g fi la).1,vO (stt g fi la).2]) t2 = some (.tup [vO (stt g fi la).1,vO (stt g fi la).2]):=zab
  generalize upd H7 t2 (.tup [vO (stt g fi la).1,vO (stt g fi la).2]) = H8 at s8 u8 ⊢
  have I8:=I7.sm s8
  refine ⟨t2,exg _ rfl ⟨SqT.of u8,rfl,_,exg _ rfl ⟨_,exg _ rfl ⟨rfl,?_⟩⟩⟩⟩
  have hg8:=s8 _ _ hg7
  have s58:=s6.trans (s7.trans s8)
  have cv8:=CondAt.same (s7.trans s8) cv
  have okst:okS (stt g fi la):=zlr inc hfl
  have wid:∀ e ∈ es',e.1.length = zaz dr:=fun e he=>by
   obtain ⟨q,hq,eq⟩:=List.mem_map.mp (subA e he)
   rw [← eq]; exact wk q hq
  obtain ⟨hA0,hK0⟩ : SheetN H3 H8 pa es' ∧ SheetN H3 H8 pk es':=⟨shA.smR (s5.trans s58),((shK.weak s4).smR s58)⟩
  with_reducible refine zah ?_; intro E_ U_
  refine (exg _ rfl ((exg _ rfl ((exg _ rfl ((exg _ rfl ((exg _ rfl ((exg _ rfl ((exg _ rfl ⟨pd,_,co,val,fi,la,g.length,zaz dr,kn,cd,rfl,I8.at',I8.known,I8.len,wk,k27,by lia,cv8,cok,cdp,hco,by lia,fun D2 H11 kn' off11 hD2 KF' klen' k54 bits=>?_⟩)))))))))))))
  have tups:∀ b xs,H8 b = some (.tup xs) → H11 b = some (.tup xs):=fun b xs e=>off11 b _ e fun z=>by rw [z,I8.at'] at e; cases e
  have lsts:∀ b xs,H3 b = none → H8 b = some (.lst xs) → H11 b = some (.lst xs):=fun b xs _ e=>off11 b _ e fun z=>by rw [z,I8.at'] at e; cases e
  have shA11:=(hA0.off hpa lsts tups).at'
  have shK11:=(hK0.off (s4.free hpk) lsts tups).at'
  have hg11:H11 pg = some (.lst (g.map V.int)):=off11 pg _ hg8 fun z=>by rw [z,I8.at'] at hg8; cases hg8
  have cv11:=CondAt.off tups cv8
  have go11:∀ {tl:LSite},tl.Ok H1 → tl.Ok H11:=fun {tl} h=>by
   have h8:tl.Ok H8:=LamOk.same h (sm2.trans I8.same)
   have go:∀ b u,H8 b = some u → (∀ kvs,u ≠ .dT kvs) → H11 b = some u:=fun b u e n1=>off11 b u e fun z=>by rw [z,I8.at'] at e; exact n1 _ (Option.some.inj e).symm
   rcases h8 with h | ⟨c',h1,h2⟩
   ·exact .inl (go _ _ h (fun _ z=>nomatch z))
   ·exact .inr ⟨c',go _ _ h1 (fun _ z=>nomatch z),go _ _ h2 (fun _ z=>nomatch z)⟩
  have tok11:=go11 tok1
  have tok11':=go11 tok1'
  have bit1:∀ (r:List Int) (m:Int),((zaG kn (zan g m) r && !(cd.sem r && inS m (stt g fi la))) || (es'.map (·.1)).any fun r0=>decide (r0.set co val = r) && (zaG kn (zan g m) r0 && (cd.sem r0 && inS m (stt g fi la)))) = zaG kn' (zan g m) r:=fun r m=>by
   have hpl:zan g m < g.length + 1:=by have:=zaB g m; lia
   rw [bits _ _ hpl]
   have e:inS m (stt g fi la) = decide (fi ≤ zan g m ∧ zan g m ≤ la):=by
    rw [Bool.eq_iff_iff,decide_eq_true_iff]
    exact zeN inc (by lia) m
   rw [e,Bool.eq_iff_iff,Bool.or_eq_true,List.any_eq_true,List.any_eq_true]
   constructor
   ·rintro (h | ⟨r0,hr0,h⟩)
    ·have h1:=(Bool.and_eq_true_iff.mp h).1
     refine ⟨r,ziE h1,?_⟩
     unfold chF
     rw [decide_eq_true rfl,h]; rfl
    ·simp only [Bool.and_eq_true,decide_eq_true_eq] at h
     refine zaa ?_; intro G_; obtain ⟨e1,e2,e3,e4⟩:=h
     refine ⟨r0,ziE e2,?_⟩
     unfold chF
     rw [e2,e3,decide_eq_true e1.symm,decide_eq_true e4]; simp
   ·rintro ⟨r0,hr0,h⟩
    unfold chF at h
    rw [Bool.or_eq_true] at h
    rcases h with h | h
    ·rw [Bool.and_eq_true,decide_eq_true_eq] at h
     rw [h.1]; exact .inl h.2
    ·refine .inr ⟨r0,?_,?_⟩
     ·have h2:=(Bool.and_eq_true_iff.mp (Bool.and_eq_true_iff.mp h).2).1
      exact phA.all r0 m h2
     ·simp only [Bool.and_eq_true,decide_eq_true_eq] at h ⊢
      exact ⟨h.1.symm,h.2⟩
  refine ⟨pg,D2,g,kn',rfl,hg11,inc,by lia,g39,KF',klen',by lia,fun pu H12 esd s12 hpu shD phD fewD subD=>?_⟩
  have l64:es'.length < 64:=by
   have:=zaP phA.nd (m:=kn.map (·.1)) fun r hr=>by obtain ⟨e,he,rfl⟩:=List.mem_map.mp hr; exact subA e he
   rw [List.length_map,List.length_map] at this
   lia
  have tot:(es'.map fun e=>((List.range (g.length + 1)).filter fun k=>zaG kn k e.1).length).sum ≤ 63:=by
   have:=zh4 I3.nd I3.len phA.nd subA
   lia
  have hsig:∀ m,inS m (stt g fi la) = decide (fi ≤ zan g m ∧ zan g m ≤ la):=fun m=>by
   rw [Bool.eq_iff_iff,decide_eq_true_iff]
   exact zeN inc (by lia) m
  have shA12:=shA11.same s12
  have shK12:=shK11.same s12
  have cv12:=CondAt.same s12 cv11
  have tok12:=LamOk.same tok11 s12
  have tok12':=LamOk.same tok11' s12
  refine zaa ?_; intro G_; obtain ⟨xd,hxd,hpd'⟩:=id shD.at'
  have GOOD:∀ (H':Hp) (Q':Addr → Hp → Prop),Stay Ls H12 H' → (∀ (D:Addr) (H'':Hp),Stay Ls H' H'' → H' D = none → SheetN H' H'' D esd → Q' D H'') → okS (stt g fi la) → ∃ (L:Nat) (g':List Int) (β:List Int → Nat → Bool) (σ:Nat → Bool) (φ:List Int → Int → Bool),cd.ok L ∧ cd.deep < 4 ∧ co < L ∧ L ≤ 100 ∧ (∀ e ∈ es',e.1.length = L) ∧ tT ∈ Ls ∧ tM ∈ Ls ∧ tT.Ok H' ∧ tM.Ok H' ∧ es'.length < 64 ∧ g'.length ≤ 60 ∧ ShB φ es' ∧ (∀ e ∈ es',∀ m,zag m e.2 = β e.1 (zan g' m)) ∧ (∀ m,inS m (stt g fi la) = σ (zan g' m)) ∧ (es'.map fun e=>((List.range (g'.length + 1)).filter (β e.1)).length).sum ≤ 63 ∧
    ∀ (D:Addr) (H'':Hp) (es2:List Ent),Stay Ls H' H'' → H' D = none → SheetN H' H'' D es2 → ShB (fun r m=>(φ r m && !(cd.sem r && inS m (stt g fi la))) || (es'.map (·.1)).any fun r0=>decide (r0.set co val = r) && (φ r0 m && (cd.sem r0 && inS m (stt g fi la)))) es2 → Q' D H'':=fun H' Q' s' q _=>by
   refine ⟨zaz dr,g,fun r k=>zaG kn k r,fun k=>decide (fi ≤ k ∧ k ≤ la),fun r m=>zaG kn (zan g m) r,cok,cdp,hco,by lia,wid,tmT,tmM,s'.lam tT tmT tok12,s'.lam tM tmM tok12',l64,by lia,phA,phA.sp,hsig,tot,fun D H'' esf st hD shF phF=>?_⟩
   obtain rfl:esf = esd:=phF.uniq phD bit1
   exact q D H'' st hD shF
  with_reducible refine zai ?_; intro E_ U_ S_
  refine (exg _ rfl ((exg _ rfl ((exg _ rfl ((exg _ rfl ((exg _ rfl ((exg _ rfl ⟨pa,_,es',cd,co,val,stt g fi la,rfl,shA12,cv12,fun no=>absurd okst no,GOOD H12 _ (Stay.refl _) fun Df H13 s13 hDf shF=>?_⟩)))))))))))
  refine zaa ?_; intro G_; obtain ⟨zs,hzs,hpz⟩:=id shF
  refine zaa ?_; intro G_; obtain ⟨zs',hzs',hpz'⟩:=id shF.at'
  with_reducible refine zai ?_; intro E_ U_ S_
  refine (exg _ rfl ⟨_,_,_,exg _ rfl ⟨.lst hzs,zeP K "list", exg _ rfl (iteF ?_)⟩⟩)
  refine (exg _ rfl ((exg _ rfl ⟨_,_,.lst (SqL.of hzs') (zbz hpz'),.lst (SqL.of (s13.g hxd)) (zbz (Paired.mapP hpd' fun _ _ z=>EntAt.stay z s13)),zaN _,zaN _,exg _ rfl ?_⟩)))
  rw [zcU]
  refine zaa ?_; intro G_; obtain ⟨xa,hxa,hpa'⟩:=id (SheetAt.stay shA12 s13)
  refine zaa ?_; intro G_; obtain ⟨xk,hxk,hpk'⟩:=id (SheetAt.stay shK12 s13)
  refine iteF (exg _ rfl ((exg _ rfl ⟨_,_,.lst (SqL.of hxa) (zbz hpa'),.lst (SqL.of hxk) (zbz hpk'),zaN _,zaN _,exg _ rfl ?_⟩)))
  rw [zcU]
  refine iteF ?_
  have lz:zs.length ≤ 64:=by
   have h1:=Paired.length hpz
   have h2:=zaP phD.nd (m:=kn'.map (·.1)) fun r hr=>by obtain ⟨e,he,rfl⟩:=List.mem_map.mp hr; exact subD e he
   rw [List.length_map,List.length_map] at h2
   lia
  refine ⟨_,rfl,Df,rfl,⟨zs,SqL.of hzs⟩,za1 (K:=K) (a:=Df) (xs:=zs) (fun i σ H'=>∃ o18,σ = [some (.ref a),some (.ref pc),some (.int dr),some (.ref pg),some (.ref pd),o5,o6,some (.ref pa),some (.ref pk),some (.ref pv),some (.int (co:Int)),some (.int val),some (.int (fi:Int)),some (.int (la:Int)),some (vO (stt g fi la).1),some (vO (stt g fi la).2),some (.ref pu),some (.ref Df),o18] ∧ Stay Ls H12 H' ∧ H' Df = some (.lst zs) ∧ Paired (EntM H12 H' Df i) zs esd)
   ⟨none,rfl,s13,hzs,zgM hpz fun v e he ⟨t,p,q,a1,a2,a3,⟨ys,a4,a5⟩,a6,a7⟩=>⟨t,p,q,ys,a1,a2,a3,a4,by have h1:=Paired.length a5; have h2:=fewD e he; lia,a6,a7⟩⟩ (by rintro i σ H' _ ⟨_,_,_,h,_⟩; exact SqL.of h) ?_ ?_⟩
  ·intro J_ E_; intro i x σ H' hx h_
   refine zaa ?_; intro G_; obtain ⟨o18,rfl,sm,hz',pr⟩:=h_
   refine zaa ?_; intro G_; obtain ⟨e,he,tt,p,q',ys,rfl,ht',hpp,hq',lq,fq,nq⟩:=zaH pr hx
   have hi:i < zs.length:=(List.getElem?_eq_some_iff.mp hx).1
   with_reducible refine zai ?_; intro E_ U_ S_
   refine (exg _ rfl ⟨_,_,_,exg _ rfl ⟨.tup ht',zeP K "tuple", exg _ rfl (iteF (exg _ rfl ⟨tt,_,1,exg _ rfl ⟨rfl,SqT.of ht',rfl,_,_,_,exg _ rfl ⟨.lst hq',zeP K "list", exg _ rfl (iteF ?_)⟩⟩⟩))⟩⟩)
   exact (exg _ rfl ⟨tt,_,1,exg _ rfl ⟨rfl,SqT.of ht',rfl,.inl ⟨rfl,_,SqL.of hq'⟩,q',ys,exg _ rfl ⟨rfl,hq',zal (by lia),exg _ rfl ⟨sm.wr fq hq' rfl (fun φ z=>by cases z),by rw [zad (Ne.symm nq)]; exact hz',Paired.mapP pr fun _ _ z=>z.grow hq' lq⟩⟩⟩⟩)
  intro σ H15 h_
  refine zaa ?_; intro G_; obtain ⟨o18,rfl,s15,hz15,pr15⟩:=h_
  with_reducible refine zah ?_; intro E_ U_
  refine (exg _ rfl ⟨.inl ⟨rfl,_,SqL.of hz15⟩,Df,zs,exg _ rfl ⟨rfl,hz15,zal (by lia),?_⟩⟩)
  have s16:Stay Ls H12 (upd H15 Df (.lst (zs ++ [.non]))):=s15.wr hDf hz15 rfl (fun φ z=>by cases z)
  generalize upd H15 Df (.lst (zs ++ [.non])) = H16 at s16 ⊢
  refine zaa ?_; intro G_; obtain ⟨xa6,hxa6,hpa6⟩:=id (SheetAt.stay shA12 s16)
  refine zaa ?_; intro G_; obtain ⟨xk6,hxk6,hpk6⟩:=id (SheetAt.stay shK12 s16)
  with_reducible refine zah ?_; intro E_ U_
  refine (exg _ rfl ((exg _ rfl ⟨_,_,.lst (SqL.of hxa6) (zbz hpa6),.lst (SqL.of hxk6) (zbz hpk6),zaN _,zaN _,exg _ rfl ?_⟩)))
  rw [zcU]
  refine iteF (exg _ rfl ((exg _ rfl ((exg _ rfl ((exg _ rfl ((exg _ rfl ((exg _ rfl ⟨pa,_,es',cd,co,val,stt g fi la,rfl,SheetAt.stay shA12 s16,CondAt.stay s16 cv12,fun no=>absurd okst no,GOOD H16 _ s16 fun D3 H17 s17 hD3 sh3=>?_⟩)))))))))))
  refine zaa ?_; intro G_; obtain ⟨z3,hz3,hp3⟩:=id sh3.at'
  have s1217:=s16.trans s17
  refine (exg _ rfl ⟨_,_,.lst (SqL.of hz3) (zbz hp3),.lst (SqL.of (s1217.g hxd)) (zbz (Paired.mapP hpd' fun _ _ z=>EntAt.stay z s1217)),zaN _,zaN _,exg _ rfl ?_⟩)
  rw [zcU]
  refine iteF ?_
  have cv17:=CondAt.stay s1217 cv12
  refine (exg _ rfl ((exg _ rfl ((exg _ rfl ⟨dr,dr,rfl,fun pw H18 s18 hpw cw=>?_⟩)))))
  rw [hcd] at cw
  have cv18:=CondAt.same s18 cv17
  refine ⟨_,_,zbP cv18,zbP cw,zdJ (by lia),zdJ (by lia),exg _ rfl ?_⟩
  rw [zci]
  exact iteT (exg _ rfl ((exg _ rfl ((exg _ rfl ((exg _ rfl ⟨pa,pg,_,dr,es',cd,g,rfl,(SheetAt.stay shA12 s1217).same s18,cv18,s18 _ _ (s1217.g (s12 _ _ hg11)),inc,by lia,k⟩)))))))
end
end Prf
namespace L2
open PySem PySem.Spec PyProof.Rows PySem.W
def zh9 (K:PySem.W.Frag) (WE C:Addr) : Bool :=
 excIn K C veM "ValueError.__new__" && ((clsIn K C).isSome && (findIn K (.ref C) "__getattribute__" == some (some (.builtin "BaseException.__getattribute__")) && (findIn K (.ref C) "__getattr__" == some none &&
  (findIn K (.ref C) "__class__" == some (some (.builtin "object.__class__")) && (mroIn K C (.type "object") == some true && (mroIn K C (.type "BaseException") == some true && (exmOne K (.ref C) (.ref WE) == some true && kitOne K (.ref C) (.type "ValueError") == some true)))))))
def zmt (K:PySem.W.Frag) (WE:Addr) (cs:List Addr) : Bool :=
 cs.length == 7 && (cs.all (zh9 K WE) && (specialIn K (.builtin "object.__class__") "__get__" == some (some (.builtin "getset_descriptor.__get__")) && (takesIn K (.builtin "object.__class__") == some true &&
  (List.range 7).all fun i=>(List.range 7).all fun j=>kitOne K (.ref (cs.getD i 0)) (.ref (cs.getD j 0)) == some (decide (i = j)))))
theorem zmG {K:PySem.W.Frag} {mg:Str → Option Value} {WE c0 c1 c2 c3 c4 c5 c6:Addr} (h:zmt K WE [c0,c1,c2,c3,c4,c5,c6] = true) (hw:mg "WhenError" = some (.ref WE)) (h0:mg "NoStretch" = some (.ref c0)) (h1:mg "NoWidth" = some (.ref c1))
  (h2:mg "NoTable" = some (.ref c2)) (h3:mg "NoColumn" = some (.ref c3)) (h4:mg "NoText" = some (.ref c4)) (h5:mg "NoName" = some (.ref c5)) (h6:mg "NoRow" = some (.ref c6)) (hv:mg "ValueError" = none) :
  Errs K mg WE (fun i=>[c0,c1,c2,c3,c4,c5,c6].getD i 0):=by
 simp only [zmt,Bool.and_eq_true,beq_iff_eq,List.all_eq_true] at h
 refine zaa ?_; intro G_; obtain ⟨_,one,gt,tk,kit⟩:=h
 have mem:∀ i,i < 7 → [c0,c1,c2,c3,c4,c5,c6].getD i 0 ∈ [c0,c1,c2,c3,c4,c5,c6]:=fun i hi=>by
  rw [List.getD_eq_getElem?_getD,List.getElem?_eq_getElem (show i < [c0,c1,c2,c3,c4,c5,c6].length from hi)]
  exact List.getElem_mem _
 have all:∀ i,i < 7 → zh9 K WE ([c0,c1,c2,c3,c4,c5,c6].getD i 0) = true:=fun i hi=>one _ (mem i hi)
 simp only [zh9,Bool.and_eq_true,beq_iff_eq] at all
 exact ⟨hw,h0,h1,h2,h3,h4,h5,h6,hv,fun i hi=>(all i hi).1,fun i hi=>let ⟨_,b,c,d,e,f,g,_,_⟩:=all i hi; ⟨b,c,d,e,gt,tk,f,g⟩,fun i hi=>(all i hi).2.2.2.2.2.2.2.1,
  fun i hi j hj=>kit i (List.mem_range.mpr hi) j (List.mem_range.mpr hj),fun i hi=>(all i hi).2.2.2.2.2.2.2.2⟩
end L2
def PySem.W.Fast.tw3819946699559868860:Unit:=()
def PySem.W.Fast.tw13107961868897593104:Unit:=()
def PySem.W.Fast.tw322787848999595089:Unit:=()
def PySem.W.Fast.tw2328342655137072803:Unit:=()
def PySem.W.Fast.tw15632225431774445837:Unit:=()
def PySem.W.Fast.tw2759543081785061133:Unit:=()
def PySem.W.Fast.tw18384445088596022484:Unit:=()
def PySem.W.Fast.tw6378313400787731690:Unit:=()
def PySem.W.Fast.tw9731970884865725357:Unit:=()
def PySem.W.Fast.tw16122448268208055721:Unit:=()
def PySem.W.Fast.tw1941793385286637925:Unit:=()
namespace Prf
open PySem L2 Wr
theorem ar1 {α:Type} {us:List α} (h:us.length = 1) : ∃ a,us = [a]:=List.length_eq_one_iff.mp h
theorem ar2 {α:Type} {us:List α} (h:us.length = 2) : ∃ a b,us = [a,b]:=by
 match us,h with
 | [a,b],_=>exact ⟨a,b,rfl⟩
theorem ar3 {α:Type} {us:List α} (h:us.length = 3) : ∃ a b c,us = [a,b,c]:=by
 match us,h with
 | [a,b,c],_=>exact ⟨a,b,c,rfl⟩
theorem ar4 {α:Type} {us:List α} (h:us.length = 4) : ∃ a b c d,us = [a,b,c,d]:=by
 match us,h with
 | [a,b,c,d],_=>exact ⟨a,b,c,d,rfl⟩
theorem ar6 {α:Type} {us:List α} (h:us.length = 6) : ∃ a b c d e f,us = [a,b,c,d,e,f]:=by
 match us,h with
 | [a,b,c,d,e,f],_=>exact ⟨a,b,c,d,e,f,rfl⟩
abbrev tabs:List (Addr × Addr):=[(166,162),(173,169)]
noncomputable abbrev sM:LSite:=zdx ⟨166,162⟩
noncomputable abbrev sT:LSite:=zcf ⟨173,169⟩
noncomputable abbrev lss:List LSite:=[sM,sT]
theorem zld {p:Nat} {t:LSite} (h:(sM.S.P = p → sM = t) ∧ (sT.S.P = p → sT = t)) : ∀ u ∈ lss,u.S.P = p → u = t:=by
 intro u hu e
 simp only [lss,List.mem_cons,List.not_mem_nil,or_false] at hu
 rcases hu with rfl | rfl
 ·exact h.1 e
 ·exact h.2 e
theorem znv {a b:Nat} {Q:Prop} (h:a ≠ b) : a = b → Q:=fun e=>absurd e h
abbrev FA (K:PySem.W.Frag) (x:Str) (t:Stmt) (f:Addr) (oc:Value) (od:Option Addr) (kV dc pm:Value) (an:Option Addr) (cd ct:Value) (sl:Array (Option Value)) : Prop:=PySem.W.nsIn K mainGlobals x = some (some (.ref f)) ∧ K.lookup f = some ⟨oc,od,.func (PySem.W.fnOf x x (zc2 t) (za8 t) (zae t) .none kV dc pm an cd ct),sl⟩ ∧ PySem.W.codeIn K cd x = true ∧ PySem.W.keepIn K (.ref f) = true
theorem all_mk {l:PySem.W.OpenLaw} {w:World} {K:PySem.W.Frag} {h:Heap} {mg:Str → Option Value} {g0 g1 g2 g3 g4 g5 g6 g7 fa f0 f1 f2 f3 f4 f5 f6 f7 f8 f9 f10 f11 f12 f13 f14 f15 f16 f17 f18 f19 f20 f21 f22 f23 f24 f25 f26 f27 f28 f29 f30:Addr} (X:K.In h) (G:h.Ns mainGlobals mg) (hfa:mg "law" = some (.ref fa))
  {od0 an0 od1 an1 od2 an2 od3 an3 od4 an4 od5 an5 od6 an6 od7 an7 od8 an8 od9 an9 od10 an10 od11 an11 od12 an12 od13 an13 od14 an14 od15 an15 od16 an16 od17 an17 od18 an18 od19 an19 od20 an20 od21 an21 od22 an22 od23 an23 od24 an24 od25 an25 od26 an26 od27 an27 od28 an28 od29 an29 od30 an30:Option Addr} {sl0 sl1 sl2 sl3 sl4 sl5 sl6 sl7 sl8 sl9 sl10 sl11 sl12 sl13 sl14 sl15 sl16 sl17 sl18 sl19 sl20 sl21 sl22 sl23 sl24 sl25 sl26 sl27 sl28 sl29 sl30:Array (Option Value)} {oc0 kV0 dc0 pm0 cd0 ct0 oc1 kV1 dc1 pm1 cd1 ct1 oc2 kV2 dc2 pm2 cd2 ct2 oc3 kV3 dc3 pm3 cd3 ct3 oc4 kV4 dc4 pm4 cd4 ct4 oc5 kV5 dc5 pm5 cd5 ct5 oc6 kV6 dc6 pm6 cd6 ct6 oc7 kV7 dc7 pm7 ct7 oc8 kV8 dc8 pm8 ct8 oc9 kV9 dc9 pm9 cd9 ct9 oc10 kV10 dc10 pm10 cd10 ct10 oc11 kV11 dc11 pm11 cd11 ct11 oc12 kV12 dc12 pm12 cd12 ct12 oc13 kV13 dc13 pm13 cd13 ct13 oc14 kV14 dc14 pm14 cd14 ct14 oc15 kV15 dc15 pm15 cd15 ct15 oc16 kV16 dc16 pm16 cd16 ct16 oc17 kV17 dc17 pm17 cd17 ct17 oc18 kV18 dc18 pm18 cd18 ct18 oc19 kV19 dc19 pm19 cd19 ct19 oc20 kV20 dc20 pm20 cd20 ct20 oc21 kV21 dc21 pm21 cd21 ct21 oc22 kV22 dc22 pm22 cd22 ct22 oc23 kV23 dc23 pm23 cd23 ct23 oc24 kV24 dc24 pm24 cd24 ct24 oc25 kV25 dc25 pm25 cd25 ct25 oc26 kV26 dc26 pm26 cd26 ct26 oc27 kV27 dc27 pm27 cd27 ct27 oc28 kV28 dc28 pm28 cd28 ct28 oc29 kV29 dc29 pm29 cd29 ct29 oc30 kV30 dc30 pm30 cd30 ct30:Value}
  (h0:FA K "meets" (top 1) f0 oc0 od0 kV0 dc0 pm0 an0 cd0 ct0 sl0)
  (h1:FA K "is_stretch" (top 12) f1 oc1 od1 kV1 dc1 pm1 an1 cd1 ct1 sl1)
  (h2:FA K "refuse_no_stretch" (top 13) f2 oc2 od2 kV2 dc2 pm2 an2 cd2 ct2 sl2)
  (h3:FA K "tidied" (top 14) f3 oc3 od3 kV3 dc3 pm3 an3 cd3 ct3 sl3)
  (h4:FA K "start_order" (top 15) f4 oc4 od4 kV4 dc4 pm4 an4 cd4 ct4 sl4)
  (h5:FA K "reaches" (top 16) f5 oc5 od5 kV5 dc5 pm5 an5 cd5 ct5 sl5)
  (h6:FA K "later_end" (top 17) f6 oc6 od6 kV6 dc6 pm6 an6 cd6 ct6 sl6)
  (h7:FA K "met" (top 18) f7 oc7 od7 kV7 dc7 pm7 an7 (.ref 166) ct7 sl7)
  (h8:FA K "taken" (top 19) f8 oc8 od8 kV8 dc8 pm8 an8 (.ref 173) ct8 sl8)
  (h9:FA K "combined" (top 20) f9 oc9 od9 kV9 dc9 pm9 an9 cd9 ct9 sl9)
  (h10:FA K "marked" (top 21) f10 oc10 od10 kV10 dc10 pm10 an10 cd10 ct10 sl10)
  (h11:FA K "is_from_ever" (top 22) f11 oc11 od11 kV11 dc11 pm11 an11 cd11 ct11 sl11)
  (h12:FA K "bounds_of" (top 23) f12 oc12 od12 kV12 dc12 pm12 an12 cd12 ct12 sl12)
  (h13:FA K "sheet_of" (top 25) f13 oc13 od13 kV13 dc13 pm13 an13 cd13 ct13 sl13)
  (h14:FA K "refuse_unlike_widths" (top 26) f14 oc14 od14 kV14 dc14 pm14 an14 cd14 ct14 sl14)
  (h15:FA K "facts_of" (top 27) f15 oc15 od15 kV15 dc15 pm15 an15 cd15 ct15 sl15)
  (h16:FA K "change" (top 29) f16 oc16 od16 kV16 dc16 pm16 an16 cd16 ct16 sl16)
  (h17:FA K "with_cell" (top 30) f17 oc17 od17 kV17 dc17 pm17 an17 cd17 ct17 sl17)
  (h18:FA K "_law_part" (top 32) f18 oc18 od18 kV18 dc18 pm18 an18 cd18 ct18 sl18)
  (h19:FA K "_law_mix" (top 33) f19 oc19 od19 kV19 dc19 pm19 an19 cd19 ct19 sl19)
  (h20:FA K "_law_grid" (top 34) f20 oc20 od20 kV20 dc20 pm20 an20 cd20 ct20 sl20)
  (h21:FA K "_law_stretch" (top 35) f21 oc21 od21 kV21 dc21 pm21 an21 cd21 ct21 sl21)
  (h22:FA K "_law_span" (top 36) f22 oc22 od22 kV22 dc22 pm22 an22 cd22 ct22 sl22)
  (h23:FA K "_law_numbers" (top 37) f23 oc23 od23 kV23 dc23 pm23 an23 cd23 ct23 sl23)
  (h24:FA K "_law_row" (top 38) f24 oc24 od24 kV24 dc24 pm24 an24 cd24 ct24 sl24)
  (h25:FA K "_law_sheet" (top 39) f25 oc25 od25 kV25 dc25 pm25 an25 cd25 ct25 sl25)
  (h26:FA K "_law_condition" (top 40) f26 oc26 od26 kV26 dc26 pm26 an26 cd26 ct26 sl26)
  (h27:FA K "_law_meets" (top 41) f27 oc27 od27 kV27 dc27 pm27 an27 cd27 ct27 sl27)
  (h28:FA K "_law_refused" (top 42) f28 oc28 od28 kV28 dc28 pm28 an28 cd28 ct28 sl28)
  (h29:FA K "_law_changed" (top 43) f29 oc29 od29 kV29 dc29 pm29 an29 cd29 ct29 sl29)
  (h30:FA K "law" (top 44) f30 oc30 od30 kV30 dc30 pm30 an30 cd30 ct30 sl30)
  (z0:PySem.W.nsIn K mainGlobals "sorted" = some none)
  (z1:PySem.W.nsIn K mainGlobals "max" = some none)
  (z2:PySem.W.nsIn K mainGlobals "min" = some none)
  (z3:PySem.W.nsIn K mainGlobals "any" = some none)
  (z4:PySem.W.nsIn K mainGlobals "all" = some none)
  (z5:PySem.W.nsIn K mainGlobals "sum" = some none)
  (z6:PySem.W.nsIn K mainGlobals "len" = some none)
  (z7:PySem.W.nsIn K mainGlobals "range" = some none)
  (z8:PySem.W.nsIn K mainGlobals "isinstance" = some none)
  (z9:PySem.W.nsIn K mainGlobals "list" = some none)
  (z10:PySem.W.nsIn K mainGlobals "tuple" = some none)
  (z11:PySem.W.nsIn K mainGlobals "int" = some none)
  (z12:PySem.W.nsIn K mainGlobals "bool" = some none)
  (z13:PySem.W.nsIn K mainGlobals "str" = some none)
  (z14:PySem.W.nsIn K mainGlobals "dict" = some none)
  (z15:PySem.W.nsIn K mainGlobals "set" = some none)
  (z16:PySem.W.nsIn K mainGlobals "zip" = some none)
  (z17:PySem.W.nsIn K mainGlobals "enumerate" = some none)
  (z18:PySem.W.nsIn K mainGlobals "reversed" = some none)
  (e0:PySem.W.nsIn K mainGlobals "WhenError" = some (some (.ref g0)))
  (e1:PySem.W.nsIn K mainGlobals "NoStretch" = some (some (.ref g1)))
  (e2:PySem.W.nsIn K mainGlobals "NoWidth" = some (some (.ref g2)))
  (e3:PySem.W.nsIn K mainGlobals "NoTable" = some (some (.ref g3)))
  (e4:PySem.W.nsIn K mainGlobals "NoColumn" = some (some (.ref g4)))
  (e5:PySem.W.nsIn K mainGlobals "NoText" = some (some (.ref g5)))
  (e6:PySem.W.nsIn K mainGlobals "NoName" = some (some (.ref g6)))
  (e7:PySem.W.nsIn K mainGlobals "NoRow" = some (some (.ref g7)))
  (ev:PySem.W.nsIn K mainGlobals "ValueError" = some none) (eo:zmt K g0 [g1,g2,g3,g4,g5,g6,g7] = true)
  : ∃ fd:FuncData,(∀ (s:Shared) (v:Value),BindsTo s fd ⟨[v],[]⟩ [("_law_script", v)]) ∧ ∀ base:Heap,K.In base → base.Ns mainGlobals mg → (∀ q ∈ tabs,SiteOk base mg ⟨q.1,q.2⟩) → FnOk l.prog w K mg base CX0 8 fa fd ["_law_script"] (zgS K sT sM):=by
 obtain ⟨a0,l0,c0,k0⟩:=h0
 obtain ⟨a1,l1,c1,k1⟩:=h1
 obtain ⟨a2,l2,c2,k2⟩:=h2
 obtain ⟨a3,l3,c3,k3⟩:=h3
 obtain ⟨a4,l4,c4,k4⟩:=h4
 obtain ⟨a5,l5,c5,k5⟩:=h5
 obtain ⟨a6,l6,c6,k6⟩:=h6
 obtain ⟨a7,l7,c7,k7⟩:=h7
 obtain ⟨a8,l8,c8,k8⟩:=h8
 obtain ⟨a9,l9,c9,k9⟩:=h9
 obtain ⟨a10,l10,c10,k10⟩:=h10
 obtain ⟨a11,l11,c11,k11⟩:=h11
 obtain ⟨a12,l12,c12,k12⟩:=h12
 obtain ⟨a13,l13,c13,k13⟩:=h13
 obtain ⟨a14,l14,c14,k14⟩:=h14
 obtain ⟨a15,l15,c15,k15⟩:=h15
 obtain ⟨a16,l16,c16,k16⟩:=h16
 obtain ⟨a17,l17,c17,k17⟩:=h17
 obtain ⟨a18,l18,c18,k18⟩:=h18
 obtain ⟨a19,l19,c19,k19⟩:=h19
 obtain ⟨a20,l20,c20,k20⟩:=h20
 obtain ⟨a21,l21,c21,k21⟩:=h21
 obtain ⟨a22,l22,c22,k22⟩:=h22
 obtain ⟨a23,l23,c23,k23⟩:=h23
 obtain ⟨a24,l24,c24,k24⟩:=h24
 obtain ⟨a25,l25,c25,k25⟩:=h25
 obtain ⟨a26,l26,c26,k26⟩:=h26
 obtain ⟨a27,l27,c27,k27⟩:=h27
 obtain ⟨a28,l28,c28,k28⟩:=h28
 obtain ⟨a29,l29,c29,k29⟩:=h29
 obtain ⟨a30,l30,c30,k30⟩:=h30
 have e:=hfa.symm.trans (PySem.W.mg_of X G a30)
 cases e
 have F0:=zat (x := "meets") (qual := "meets") (st:=ze8) l0 c0 k0
 have b0:=F0.binds (ps:=["condition","row"]) fun _ _ _ _ _ _ us hl=>by obtain ⟨_,_,rfl⟩:=ar2 hl; rfl
 have F1:=zat (x := "is_stretch") (qual := "is_stretch") (st:=zbW) l1 c1 k1
 have b1:=F1.binds (ps:=["start","end"]) fun _ _ _ _ _ _ us hl=>by obtain ⟨_,_,rfl⟩:=ar2 hl; rfl
 have F2:=zat (x := "refuse_no_stretch") (qual := "refuse_no_stretch") (st:=zaS) l2 c2 k2
 have b2:=F2.binds (ps:=["start","end"]) fun _ _ _ _ _ _ us hl=>by obtain ⟨_,_,rfl⟩:=ar2 hl; rfl
 have F3:=zat (x := "tidied") (qual := "tidied") (st:=zed) l3 c3 k3
 have b3:=F3.binds (ps:=["stretches"]) fun _ _ _ _ _ _ us hl=>by obtain ⟨_,rfl⟩:=ar1 hl; rfl
 have F4:=zat (x := "start_order") (qual := "start_order") (st:=zbC) l4 c4 k4
 have b4:=F4.binds (ps:=["stretch"]) fun _ _ _ _ _ _ us hl=>by obtain ⟨_,rfl⟩:=ar1 hl; rfl
 have F5:=zat (x := "reaches") (qual := "reaches") (st:=zc1) l5 c5 k5
 have b5:=F5.binds (ps:=["stretch","start"]) fun _ _ _ _ _ _ us hl=>by obtain ⟨_,_,rfl⟩:=ar2 hl; rfl
 have F6:=zat (x := "later_end") (qual := "later_end") (st:=zb6) l6 c6 k6
 have b6:=F6.binds (ps:=["one","other"]) fun _ _ _ _ _ _ us hl=>by obtain ⟨_,_,rfl⟩:=ar2 hl; rfl
 have F7:=zat (x := "met") (qual := "met") (st:=zaY) l7 c7 k7
 have b7:=F7.binds (ps:=["one","other"]) fun _ _ _ _ _ _ us hl=>by obtain ⟨_,_,rfl⟩:=ar2 hl; rfl
 have F8:=zat (x := "taken") (qual := "taken") (st:=zar) l8 c8 k8
 have b8:=F8.binds (ps:=["one","other"]) fun _ _ _ _ _ _ us hl=>by obtain ⟨_,_,rfl⟩:=ar2 hl; rfl
 have F9:=zat (x := "combined") (qual := "combined") (st:=zcr) l9 c9 k9
 have b9:=F9.binds (ps:=["one","other","wanted"]) fun _ _ _ _ _ _ us hl=>by obtain ⟨_,_,_,rfl⟩:=ar3 hl; rfl
 have F10:=zat (x := "marked") (qual := "marked") (st:=zdM) l10 c10 k10
 have b10:=F10.binds (ps:=["numbers"]) fun _ _ _ _ _ _ us hl=>by obtain ⟨_,rfl⟩:=ar1 hl; rfl
 have F11:=zat (x := "is_from_ever") (qual := "is_from_ever") (st:=zbo) l11 c11 k11
 have b11:=F11.binds (ps:=["span"]) fun _ _ _ _ _ _ us hl=>by obtain ⟨_,rfl⟩:=ar1 hl; rfl
 have F12:=zat (x := "bounds_of") (qual := "bounds_of") (st:=zb3) l12 c12 k12
 have b12:=F12.binds (ps:=["span"]) fun _ _ _ _ _ _ us hl=>by obtain ⟨_,rfl⟩:=ar1 hl; rfl
 have F13:=zat (x := "sheet_of") (qual := "sheet_of") (st:=zcp) l13 c13 k13
 have b13:=F13.binds (ps:=["facts"]) fun _ _ _ _ _ _ us hl=>by obtain ⟨_,rfl⟩:=ar1 hl; rfl
 have F14:=zat (x := "refuse_unlike_widths") (qual := "refuse_unlike_widths") (st:=zaD) l14 c14 k14
 have b14:=F14.binds (ps:=["facts"]) fun _ _ _ _ _ _ us hl=>by obtain ⟨_,rfl⟩:=ar1 hl; rfl
 have F15:=zat (x := "facts_of") (qual := "facts_of") (st:=zcx) l15 c15 k15
 have b15:=F15.binds (ps:=["entries"]) fun _ _ _ _ _ _ us hl=>by obtain ⟨_,rfl⟩:=ar1 hl; rfl
 have F16:=zat (x := "change") (qual := "change") (st:=zdD) l16 c16 k16
 have b16:=F16.binds (ps:=["sheet","condition","column","value","start","end"]) fun _ _ _ _ _ _ us hl=>by obtain ⟨_,_,_,_,_,_,rfl⟩:=ar6 hl; rfl
 have F17:=zat (x := "with_cell") (qual := "with_cell") (st:=zca) l17 c17 k17
 have b17:=F17.binds (ps:=["row","column","value"]) fun _ _ _ _ _ _ us hl=>by obtain ⟨_,_,_,rfl⟩:=ar3 hl; rfl
 have F18:=zat (x := "_law_part") (qual := "_law_part") (st:=zb5) l18 c18 k18
 have b18:=F18.binds (ps:=["_law_cell","_law_k"]) fun _ _ _ _ _ _ us hl=>by obtain ⟨_,_,rfl⟩:=ar2 hl; rfl
 have F19:=zat (x := "_law_mix") (qual := "_law_mix") (st:=zcD) l19 c19 k19
 have b19:=F19.binds (ps:=["_law_cell","_law_j"]) fun _ _ _ _ _ _ us hl=>by obtain ⟨_,_,rfl⟩:=ar2 hl; rfl
 have F20:=zat (x := "_law_grid") (qual := "_law_grid") (st:=zb0) l20 c20 k20
 have b20:=F20.binds (ps:=["_law_cell"]) fun _ _ _ _ _ _ us hl=>by obtain ⟨_,rfl⟩:=ar1 hl; rfl
 have F21:=zat (x := "_law_stretch") (qual := "_law_stretch") (st:=zbk) l21 c21 k21
 have b21:=F21.binds (ps:=["_law_grid_here","_law_first","_law_last"]) fun _ _ _ _ _ _ us hl=>by obtain ⟨_,_,_,rfl⟩:=ar3 hl; rfl
 have F22:=zat (x := "_law_span") (qual := "_law_span") (st:=zce) l22 c22 k22
 have b22:=F22.binds (ps:=["_law_grid_here","_law_lit"]) fun _ _ _ _ _ _ us hl=>by obtain ⟨_,_,rfl⟩:=ar2 hl; rfl
 have F23:=zat (x := "_law_numbers") (qual := "_law_numbers") (st:=zbu) l23 c23 k23
 have b23:=F23.binds (ps:=["_law_drawn"]) fun _ _ _ _ _ _ us hl=>by obtain ⟨_,rfl⟩:=ar1 hl; rfl
 have F24:=zat (x := "_law_row") (qual := "_law_row") (st:=zcB) l24 c24 k24
 have b24:=F24.binds (ps:=["_law_drawn","_law_number"]) fun _ _ _ _ _ _ us hl=>by obtain ⟨_,_,rfl⟩:=ar2 hl; rfl
 have F25:=zat (x := "_law_sheet") (qual := "_law_sheet") (st:=zbV) l25 c25 k25
 have b25:=F25.binds (ps:=["_law_grid_here","_law_known"]) fun _ _ _ _ _ _ us hl=>by obtain ⟨_,_,rfl⟩:=ar2 hl; rfl
 have F26:=zat (x := "_law_condition") (qual := "_law_condition") (st:=za6) l26 c26 k26
 have b26:=F26.binds (ps:=["_law_drawn","_law_number","_law_deep"]) fun _ _ _ _ _ _ us hl=>by obtain ⟨_,_,_,rfl⟩:=ar3 hl; rfl
 have F27:=zat (x := "_law_meets") (qual := "_law_meets") (st:=zbX) l27 c27 k27
 have b27:=F27.binds (ps:=["_law_condition_here","_law_row_here"]) fun _ _ _ _ _ _ us hl=>by obtain ⟨_,_,rfl⟩:=ar2 hl; rfl
 have F28:=zat (x := "_law_refused") (qual := "_law_refused") (st:=zbl) l28 c28 k28
 have b28:=F28.binds (ps:=["_law_sheet_here","_law_condition_here","_law_grid_here","_law_drawn"]) fun _ _ _ _ _ _ us hl=>by obtain ⟨_,_,_,_,rfl⟩:=ar4 hl; rfl
 have F29:=zat (x := "_law_changed") (qual := "_law_changed") (st:=zbp) l29 c29 k29
 have b29:=F29.binds (ps:=["_law_known","_law_condition_here","_law_column","_law_value","_law_first","_law_last"]) fun _ _ _ _ _ _ us hl=>by obtain ⟨_,_,_,_,_,_,rfl⟩:=ar6 hl; rfl
 have F30:=zat (x := "law") (qual := "law") (st:=zen) l30 c30 k30
 have y0:=PySem.W.mg_none_of X G z0
 have y1:=PySem.W.mg_none_of X G z1
 have y2:=PySem.W.mg_none_of X G z2
 have y3:=PySem.W.mg_none_of X G z3
 have y4:=PySem.W.mg_none_of X G z4
 have y5:=PySem.W.mg_none_of X G z5
 have y6:=PySem.W.mg_none_of X G z6
 have y7:=PySem.W.mg_none_of X G z7
 have y8:=PySem.W.mg_none_of X G z8
 have y9:=PySem.W.mg_none_of X G z9
 have y10:=PySem.W.mg_none_of X G z10
 have y11:=PySem.W.mg_none_of X G z11
 have y12:=PySem.W.mg_none_of X G z12
 have y13:=PySem.W.mg_none_of X G z13
 have y14:=PySem.W.mg_none_of X G z14
 have y15:=PySem.W.mg_none_of X G z15
 have y16:=PySem.W.mg_none_of X G z16
 have y17:=PySem.W.mg_none_of X G z17
 have y18:=PySem.W.mg_none_of X G z18
 have O:Errs K mg g0 (fun i=>[g1,g2,g3,g4,g5,g6,g7].getD i 0):=zmG eo (PySem.W.mg_of X G e0) (PySem.W.mg_of X G e1) (PySem.W.mg_of X G e2) (PySem.W.mg_of X G e3) (PySem.W.mg_of X G e4) (PySem.W.mg_of X G e5) (PySem.W.mg_of X G e6) (PySem.W.mg_of X G e7) (PySem.W.mg_none_of X G ev)
 refine ⟨PySem.W.fnOf "law" "law" (zc2 zen) (za8 zen) (zae zen) .none kV30 dc30 pm30 an30 cd30 ct30,fun s v=>.of_eq rfl,fun base _ _ hSs=>?_⟩
 have B:Blts mg:=⟨y0,y1,y2,y3,y4,y5,y6,y7,y8,y9,y10,y11,y12,y13,y14,y15,y16,y17,y18⟩
 have hS_met:SiteOk base mg ⟨166,162⟩:=hSs (166,162) (by simp [tabs])
 have hS_taken:SiteOk base mg ⟨173,169⟩:=hSs (173,169) (by simp [tabs])
 have F_start_order:FnP l.prog w K mg base 1 "start_order" ["stretch"] (zgJ K):=⟨_,_,zj4 F4,PySem.W.mg_of X G a4,k4,b4⟩
 have F_reaches:FnP l.prog w K mg base 1 "reaches" ["stretch","start"] (zgN K):=⟨_,_,zkr F5,PySem.W.mg_of X G a5,k5,b5⟩
 have F_later_end:FnP l.prog w K mg base 1 "later_end" ["one","other"] zgo:=⟨_,_,zkV F6 B.max,PySem.W.mg_of X G a6,k6,b6⟩
 have F_tidied:FnP l.prog w K mg base 4 "tidied" ["stretches"] zdt:=⟨_,_,ziT F3 B.sorted F_start_order F_reaches F_later_end,PySem.W.mg_of X G a3,k3,b3⟩
 have F_is_stretch:FnP l.prog w K mg base 1 "is_stretch" ["start","end"] zbJ:=⟨_,_,ze1 F1,PySem.W.mg_of X G a1,k1,b1⟩
 have F_refuse_no_stretch:FnX l.prog w K mg base 2 "refuse_no_stretch" ["start","end"] (zaA ((fun i=>[g1,g2,g3,g4,g5,g6,g7].getD i 0) 0)):=⟨_,_,zck F2 ⟨O.bS,O.exc 0 (by decide)⟩ F_is_stretch,PySem.W.mg_of X G a2,k2,b2⟩
 have F_refuse_unlike_widths:FnX l.prog w K mg base 1 "refuse_unlike_widths" ["facts"] (zaF ((fun i=>[g1,g2,g3,g4,g5,g6,g7].getD i 0) 1)):=⟨_,_,zbQ F14 B ⟨O.bW,O.exc 1 (by decide)⟩,PySem.W.mg_of X G a14,k14,b14⟩
 have F_sheet_of:FnX l.prog w K mg base 5 "sheet_of" ["facts"] (zcs ((fun i=>[g1,g2,g3,g4,g5,g6,g7].getD i 0) 0) ((fun i=>[g1,g2,g3,g4,g5,g6,g7].getD i 0) 1)):=⟨_,_,zgc F13 B F_refuse_no_stretch F_refuse_unlike_widths F_tidied,PySem.W.mg_of X G a13,k13,b13⟩
 have F_facts_of:FnP l.prog w K mg base 1 "facts_of" ["entries"] zco:=⟨_,_,zgG F15,PySem.W.mg_of X G a15,k15,b15⟩
 have F_bounds_of:FnP l.prog w K mg base 1 "bounds_of" ["span"] zb9:=⟨_,_,zfJ F12,PySem.W.mg_of X G a12,k12,b12⟩
 have F_marked:FnP l.prog w K mg base 1 "marked" ["numbers"] zdA:=⟨_,_,zin F10 B.dict,PySem.W.mg_of X G a10,k10,b10⟩
 have F_is_from_ever:FnP l.prog w K mg base 1 "is_from_ever" ["span"] zbm:=⟨_,_,zdV F11 B,PySem.W.mg_of X G a11,k11,b11⟩
 have F_combined:FnP l.prog w K mg base 2 "combined" ["one","other","wanted"] (zbK l.prog w K mg base):=⟨_,_,zgk F9 B F_bounds_of F_marked F_is_from_ever,PySem.W.mg_of X G a9,k9,b9⟩
 have F_met:FnP l.prog w K mg base 3 "met" ["one","other"] (zis sM lss):=⟨_,_,zns F7 rfl hS_met F_combined (zld ⟨fun _=>rfl,znv (by decide)⟩),PySem.W.mg_of X G a7,k7,b7⟩
 have F_taken:FnP l.prog w K mg base 3 "taken" ["one","other"] (zfj sT lss):=⟨_,_,zkJ F8 rfl hS_taken F_combined (zld ⟨znv (by decide),fun _=>rfl⟩),PySem.W.mg_of X G a8,k8,b8⟩
 have F_meets:FnP l.prog w K mg base 4 "meets" ["condition","row"] (zfh 4):=⟨_,_,zg1 F0 (PySem.W.mg_of X G a0) k0 b0 4,PySem.W.mg_of X G a0,k0,b0⟩
 have F_with_cell:FnP l.prog w K mg base 1 "with_cell" ["row","column","value"] zb8:=⟨_,_,zfN F17,PySem.W.mg_of X G a17,k17,b17⟩
 have F_change:FnX l.prog w K mg base 6 "change" ["sheet","condition","column","value","start","end"] (zcK ((fun i=>[g1,g2,g3,g4,g5,g6,g7].getD i 0) 0) sT sM lss):=⟨_,_,zjd F16 F_refuse_no_stretch F_meets F_taken F_met F_with_cell F_sheet_of F_facts_of,PySem.W.mg_of X G a16,k16,b16⟩
 have F__law_part:FnP l.prog w K mg base 1 "_law_part" ["_law_cell","_law_k"] ziV:=⟨_,_,zfT F18,PySem.W.mg_of X G a18,k18,b18⟩
 have F__law_mixF:FnP l.prog w K mg base 1 "_law_mix" ["_law_cell","_law_j"] zdO:=⟨_,_,zil F19,PySem.W.mg_of X G a19,k19,b19⟩
 have F__law_mix:FnP l.prog w K mg base 1 "_law_mix" ["_law_cell","_law_j"] zhX:=⟨_,_,(zil F19).imp zks,PySem.W.mg_of X G a19,k19,b19⟩
 have F__law_grid:FnP l.prog w K mg base 2 "_law_grid" ["_law_cell"] zjy:=⟨_,_,zmS F20 B.range F__law_mix,PySem.W.mg_of X G a20,k20,b20⟩
 have F__law_stretch:FnP l.prog w K mg base 1 "_law_stretch" ["_law_grid_here","_law_first","_law_last"] ziW:=⟨_,_,znh F21 B.len,PySem.W.mg_of X G a21,k21,b21⟩
 have F__law_span:FnP l.prog w K mg base 2 "_law_span" ["_law_grid_here","_law_lit"] zg2:=⟨_,_,zmH F22 B.len F__law_stretch,PySem.W.mg_of X G a22,k22,b22⟩
 have F__law_numbers:FnP l.prog w K mg base 2 "_law_numbers" ["_law_drawn"] zaM:=⟨_,_,zdX F23 F__law_mixF,PySem.W.mg_of X G a23,k23,b23⟩
 have F__law_row:FnP l.prog w K mg base 3 "_law_row" ["_law_drawn","_law_number"] zcC:=⟨_,_,zgi F24 B F__law_numbers F__law_mixF,PySem.W.mg_of X G a24,k24,b24⟩
 have F__law_sheet:FnP l.prog w K mg base 3 "_law_sheet" ["_law_grid_here","_law_known"] zbR:=⟨_,_,ze5 F25 B F__law_span,PySem.W.mg_of X G a25,k25,b25⟩
 have F__law_condition:FnP l.prog w K mg base 6 "_law_condition" ["_law_drawn","_law_number","_law_deep"] (zjB 3):=⟨_,_,zbD F26 (PySem.W.mg_of X G a26) k26 b26 F__law_mixF F__law_part F__law_numbers 4,PySem.W.mg_of X G a26,k26,b26⟩
 have F__law_meets:FnP l.prog w K mg base 4 "_law_meets" ["_law_condition_here","_law_row_here"] (zds 4):=⟨_,_,zcI F27 (PySem.W.mg_of X G a27) k27 b27 4,PySem.W.mg_of X G a27,k27,b27⟩
 have F__law_refused:FnP l.prog w K mg base 7 "_law_refused" ["_law_sheet_here","_law_condition_here","_law_grid_here","_law_drawn"] zbt:=⟨_,_,zd0 F28 B O F__law_mix F_change,PySem.W.mg_of X G a28,k28,b28⟩
 have F__law_changed:FnP l.prog w K mg base 5 "_law_changed" ["_law_known","_law_condition_here","_law_column","_law_value","_law_first","_law_last"] zbq:=⟨_,_,zdK F29 B F__law_meets,PySem.W.mg_of X G a29,k29,b29⟩
 exact znl (c:=(fun i=>[g1,g2,g3,g4,g5,g6,g7].getD i 0)) (tT:=sT) (tM:=sM) (Ls:=lss) (by simp [lss]) (by simp [lss]) F30 B F__law_mix F__law_mixF F__law_grid F__law_stretch F__law_sheet F__law_row F__law_numbers F__law_condition F__law_changed F__law_refused F_change
theorem walk {l:PySem.W.OpenLaw} {q:Program} {loose:List Str} {XP:(Str → Option Value) → Heap → Prop} {YP:World → Heap → Prop} {d:DefRec} {K:Params → PySem.W.Frag} (hn:l.most = some 63) (hdf:d.params.defaults = [])
  (hY:∀ (w:World) (h:Heap),YP w h → (K w.params).In h) (hK:∀ w:World,PySem.W.noTabs (K w.params) = true)
  (hT:∀ (w:World) (mean:ExcName → Option Value) (mg mb:Str → Option Value) (h:Heap),(K w.params).In h → PyProof.Rows.Top q (PySem.W.looseW q loose) mean mg mb h → PySem.W.TabsAt tabs h) (F:∀ (w:World) (mg:Str → Option Value) (fa:Addr) (h:Heap),(K w.params).In h → h.Ns mainGlobals mg → mg d.name = some (.ref fa) →
   ∃ fd:FuncData,(∀ (s:Shared) (u:Value),BindsTo s fd ⟨[u],[]⟩ [("_law_script", u)]) ∧ ∀ base:Heap,(K w.params).In base → base.Ns mainGlobals mg → (∀ q ∈ tabs,SiteOk base mg ⟨q.1,q.2⟩) → FnOk l.prog w (K w.params) mg base CX0 8 fa fd ["_law_script"] (zgS (K w.params) sT sM)) :
  PySem.W.WalkO q loose XP YP l.row.toRowW d [] (fun f vs=>PySem.call f vs) :=
 L2.walk_ofT (n:=63) (k:=8) (x := "_law_script") (tabs:=tabs) (sp:=fun w=>zgS (K w.params) sT sM) hn (by decide) hdf ⟨rfl,by decide,by decide⟩ hY hK hT F (fun w H a ns hl hO hS=>⟨a,ns,rfl,hS,hl,.inl (hO (173,169) (by simp [tabs])),.inl (hO (166,162) (by simp [tabs])),fun _=>rfl⟩)
def c0:Stmt:=top 0
def c1:Stmt:=top 1
def c2:Stmt:=top 2
def c3:Stmt:=top 3
def c4:Stmt:=top 4
def c5:Stmt:=top 5
def c6:Stmt:=top 6
def c7:Stmt:=top 7
def c8:Stmt:=top 8
def c9:Stmt:=top 9
def c10:Stmt:=top 10
def c11:Stmt:=top 11
def c12:Stmt:=top 12
def c13:Stmt:=top 13
def c14:Stmt:=top 14
def c15:Stmt:=top 15
def c16:Stmt:=top 16
def c17:Stmt:=top 17
def c20:Stmt:=top 20
def c21:Stmt:=top 21
def c22:Stmt:=top 22
def c23:Stmt:=top 23
def c24:Stmt:=top 24
def c25:Stmt:=top 25
def c26:Stmt:=top 26
def c27:Stmt:=top 27
def c28:Stmt:=top 28
def c29:Stmt:=top 29
def c30:Stmt:=top 30
def c31:Stmt:=top 31
def c32:Stmt:=top 32
def c33:Stmt:=top 33
def c34:Stmt:=top 34
def c35:Stmt:=top 35
def c36:Stmt:=top 36
def c37:Stmt:=top 37
def c38:Stmt:=top 38
def c39:Stmt:=top 39
def c40:Stmt:=top 40
def c41:Stmt:=top 41
def c42:Stmt:=top 42
def c43:Stmt:=top 43
def c44:Stmt:=top 44
def pq:Program:={ PySem.Challenge.pw_whenrows_k53_change with main:={ PySem.Challenge.pw_whenrows_k53_change.main with body:=[c0,c1,c2,c3,c4,c5,c6,c7,c8,c9,c10,c11,c12,c13,c14,c15,c16,c17,((fun (s:Stmt) (_:top 18 = s)=>s) (.FunctionDef _ _ _ _ _ _ _ _ _ _) rfl),((fun (s:Stmt) (_:top 19 = s)=>s) (.FunctionDef _ _ _ _ _ _ _ _ _ _) rfl),c20,c21,c22,c23,c24,c25,c26,c27,c28,c29,c30,c31,c32,c33,c34,c35,c36,c37,c38,c39,c40,c41,c42,c43,c44] } }
def rq:PySem.W.OpenLaw:={ PySem.Challenge.rw_whenrows_k53_change with prog:=pq }
end Prf
open PySem PySem.W PyProof.Rows
set_option maxRecDepth 100000 in
set_option maxHeartbeats 0 in
theorem Prf.holds_q:Prf.rq.Holds:=by
 w_on; o_law; k_head; (case hw=>w_witness2)
 k_fill
 refine Prf.walk (l:=Prf.rq) rfl rfl (fun w h Y=>PySem.W.km_in_of Y) (fun w=>by kernel_rfl) (fun w mean mg mb h X T=>(List.forall_mem_cons.mpr ⟨PySem.W.tab_of (x:=PySem.Str.ofString "met") (c:=166) (P:=162) T X rfl (by kernel_rfl),(List.forall_mem_cons.mpr ⟨PySem.W.tab_of (x:=PySem.Str.ofString "taken") (c:=173) (P:=169) T X rfl (by kernel_rfl),(fun _ h=>nomatch h)⟩)⟩)) ?F
 case F =>
  intro w mg fa h KX G hmg
  refine' Prf.all_mk KX G hmg ⟨?a0,?l0,?c0,?k0⟩ ⟨?a1,?l1,?c1,?k1⟩ ⟨?a2,?l2,?c2,?k2⟩ ⟨?a3,?l3,?c3,?k3⟩ ⟨?a4,?l4,?c4,?k4⟩ ⟨?a5,?l5,?c5,?k5⟩ ⟨?a6,?l6,?c6,?k6⟩ ⟨?a7,?l7,?c7,?k7⟩ ⟨?a8,?l8,?c8,?k8⟩ ⟨?a9,?l9,?c9,?k9⟩ ⟨?a10,?l10,?c10,?k10⟩ ⟨?a11,?l11,?c11,?k11⟩ ⟨?a12,?l12,?c12,?k12⟩ ⟨?a13,?l13,?c13,?k13⟩ ⟨?a14,?l14,?c14,?k14⟩ ⟨?a15,?l15,?c15,?k15⟩ ⟨?a16,?l16,?c16,?k16⟩ ⟨?a17,?l17,?c17,?k17⟩ ⟨?a18,?l18,?c18,?k18⟩ ⟨?a19,?l19,?c19,?k19⟩ ⟨?a20,?l20,?c20,?k20⟩ ⟨?a21,?l21,?c21,?k21⟩ ⟨?a22,?l22,?c22,?k22⟩ ⟨?a23,?l23,?c23,?k23⟩ ⟨?a24,?l24,?c24,?k24⟩ ⟨?a25,?l25,?c25,?k25⟩ ⟨?a26,?l26,?c26,?k26⟩ ⟨?a27,?l27,?c27,?k27⟩ ⟨?a28,?l28,?c28,?k28⟩ ⟨?a29,?l29,?c29,?k29⟩ ⟨?a30,?l30,?c30,?k30⟩ ?z0 ?z1 ?z2 ?z3 ?z4 ?z5 ?z6 ?z7 ?z8 ?z9 ?z10 ?z11 ?z12 ?z13 ?z14 ?z15 ?z16 ?z17 ?z18 ?e0 ?e1 ?e2 ?e3 ?e4 ?e5 ?e6 ?e7 ?ev ?eo
  (case a0=>k_is); (case l0=>k_is); (case c0=>k_is); (case k0=>k_is)
  (case a1=>k_is); (case l1=>k_is); (case c1=>k_is); (case k1=>k_is)
  (case a2=>k_is); (case l2=>k_is); (case c2=>k_is); (case k2=>k_is)
  (case a3=>k_is); (case l3=>k_is); (case c3=>k_is); (case k3=>k_is)
  (case a4=>k_is); (case l4=>k_is); (case c4=>k_is); (case k4=>k_is)
  (case a5=>k_is); (case l5=>k_is); (case c5=>k_is); (case k5=>k_is)
  (case a6=>k_is); (case l6=>k_is); (case c6=>k_is); (case k6=>k_is)
  (case a7=>k_is); (case l7=>k_is); (case c7=>k_is); (case k7=>k_is)
  (case a8=>k_is); (case l8=>k_is); (case c8=>k_is); (case k8=>k_is)
  (case a9=>k_is); (case l9=>k_is); (case c9=>k_is); (case k9=>k_is)
  (case a10=>k_is); (case l10=>k_is); (case c10=>k_is); (case k10=>k_is)
  (case a11=>k_is); (case l11=>k_is); (case c11=>k_is); (case k11=>k_is)
  (case a12=>k_is); (case l12=>k_is); (case c12=>k_is); (case k12=>k_is)
  (case a13=>k_is); (case l13=>k_is); (case c13=>k_is); (case k13=>k_is)
  (case a14=>k_is); (case l14=>k_is); (case c14=>k_is); (case k14=>k_is)
  (case a15=>k_is); (case l15=>k_is); (case c15=>k_is); (case k15=>k_is)
  (case a16=>k_is); (case l16=>k_is); (case c16=>k_is); (case k16=>k_is)
  (case a17=>k_is); (case l17=>k_is); (case c17=>k_is); (case k17=>k_is)
  (case a18=>k_is); (case l18=>k_is); (case c18=>k_is); (case k18=>k_is)
  (case a19=>k_is); (case l19=>k_is); (case c19=>k_is); (case k19=>k_is)
  (case a20=>k_is); (case l20=>k_is); (case c20=>k_is); (case k20=>k_is)
  (case a21=>k_is); (case l21=>k_is); (case c21=>k_is); (case k21=>k_is)
  (case a22=>k_is); (case l22=>k_is); (case c22=>k_is); (case k22=>k_is)
  (case a23=>k_is); (case l23=>k_is); (case c23=>k_is); (case k23=>k_is)
  (case a24=>k_is); (case l24=>k_is); (case c24=>k_is); (case k24=>k_is)
  (case a25=>k_is); (case l25=>k_is); (case c25=>k_is); (case k25=>k_is)
  (case a26=>k_is); (case l26=>k_is); (case c26=>k_is); (case k26=>k_is)
  (case a27=>k_is); (case l27=>k_is); (case c27=>k_is); (case k27=>k_is)
  (case a28=>k_is); (case l28=>k_is); (case c28=>k_is); (case k28=>k_is)
  (case a29=>k_is); (case l29=>k_is); (case c29=>k_is); (case k29=>k_is)
  (case a30=>k_is); (case l30=>k_is); (case c30=>k_is); (case k30=>k_is)
  (case z0=>k_is); (case z1=>k_is); (case z2=>k_is); (case z3=>k_is); (case z4=>k_is); (case z5=>k_is); (case z6=>k_is); (case z7=>k_is); (case z8=>k_is); (case z9=>k_is); (case z10=>k_is); (case z11=>k_is); (case z12=>k_is); (case z13=>k_is); (case z14=>k_is); (case z15=>k_is); (case z16=>k_is); (case z17=>k_is); (case z18=>k_is)
  (case e0=>k_is); (case e1=>k_is); (case e2=>k_is); (case e3=>k_is); (case e4=>k_is); (case e5=>k_is); (case e6=>k_is); (case e7=>k_is); (case ev=>k_is)
  (case eo=>kernel_rfl)
theorem Prf.same_q:Prf.rq = PySem.Challenge.rw_whenrows_k53_change:=by kernel_rfl
theorem PySem.Challenge.cw_whenrows_k53_change_holds : PySem.Challenge.rw_whenrows_k53_change.Holds :=
 Prf.same_q ▸ Prf.holds_q
