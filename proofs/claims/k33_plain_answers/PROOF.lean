import PyProof.Rows.All
import Wide.All
import OpenK.AllK
import PySem.Challenge.RW_whenrows_k33_plain_answers
set_option Elab.async false
set_option linter.all false
set_option maxRecDepth 100000
local macro_rules | `(tactic| walk_at "sc") => `(tactic| exact ⟨rfl, rfl, rfl, by decide +kernel, rfl, by decide +kernel, by decide +kernel⟩)
namespace L2
open PySem PySem.Spec PyProof.Rows
abbrev Key:=Sum Int Str
def ziG:Key->Value->Bool
 | .inl k,v=>Value.isInt k v
 | .inr x,v=>Value.isStrOf x v
def keyH (w:World) : Key->Int
 | .inl k=>hashInt k
 | .inr x=>hashStr w x
theorem zaD:∀ {k:Key} {v:Value},ziG k v=true->(∃ i t,k=Sum.inl i/\v=Value.int i t)\/(∃ x t,k=Sum.inr x/\v=Value.str x t)
 | .inl i,v,h=>by
  obtain ⟨t,e⟩:=Value.isInt_shape (k:=i) (v:=v) h
  exact .inl ⟨i,t,rfl,e⟩
 | .inr x,v,h=>by
  obtain ⟨t,e⟩:=Value.isStrOf_shape (x:=x) (v:=v) h
  exact .inr ⟨x,t,rfl,e⟩
theorem zj7 (i:Int)(t:Tok) : ziG (.inl i) (.int i t)=true:=by simp [ziG,Value.isInt]
theorem ziO (x:Str)(t:Tok) : ziG (.inr x) (.str x t)=true:=by simp [ziG,Value.isStrOf]
theorem znP (a b:Int) : decide ((Sum.inl a:Key)=Sum.inl b)=(a == b):=by
 by_cases e:a=b
 ·subst e;simp
 ·have h : ¬ (Sum.inl a:Key)=Sum.inl b:=fun q=>e (Sum.inl.inj q)
  rw [decide_eq_false h]
  exact (beq_eq_false_iff_ne.mpr e).symm
theorem zmN (a b:Str) : decide ((Sum.inr a:Key)=Sum.inr b)=decide (a=b):=by
 by_cases e:a=b
 ·subst e;simp
 ·have h : ¬ (Sum.inr a:Key)=Sum.inr b:=fun q=>e (Sum.inr.inj q)
  rw [decide_eq_false h,decide_eq_false e]
theorem znE (a:Int)(b:Str) : decide ((Sum.inl a:Key)=Sum.inr b)=false:=decide_eq_false (fun q=>nomatch q)
theorem znI (a:Str)(b:Int) : decide ((Sum.inr a:Key)=Sum.inl b)=false:=decide_eq_false (fun q=>nomatch q)
def zaL (prog:Program)(w:World) : PySem.KeyKind prog w Key where
 is:=ziG
 hash:=keyH w
 inj:=fun v a b ha hb=>by
  rcases zaD ha with ⟨i,t,rfl,rfl⟩ | ⟨x,t,rfl,rfl⟩
  ·rcases zaD hb with ⟨j,u,rfl,e⟩ | ⟨y,u,rfl,e⟩
   ·injection e with e1 _;rw [e1]
   ·exact nomatch e
  ·rcases zaD hb with ⟨j,u,rfl,e⟩ | ⟨y,u,rfl,e⟩
   ·exact nomatch e
   ·injection e with e1 _;rw [e1]
 byValue:=fun k v h=>by
  rcases zaD h with ⟨i,t,rfl,rfl⟩ | ⟨x,t,rfl,rfl⟩<;>rfl
 pyHash:=fun hv h=>by
  rcases zaD hv with ⟨i,t,rfl,rfl⟩ | ⟨x,t,rfl,rfl⟩
  ·exact wpAny_pyHash_int h
  ·exact wpAny_pyHash_str h
 eqBool:=fun hu hv h=>by
  rcases zaD hu with ⟨i,t,rfl,rfl⟩ | ⟨x,t,rfl,rfl⟩
  ·rcases zaD hv with ⟨j,u,rfl,rfl⟩ | ⟨y,u,rfl,rfl⟩
   ·rw [znP] at h;exact wpAny_eqBool_int h
   ·rw [znE] at h;exact SeqAt.EqAt.int_str i t y u _ _ _ _ h
  ·rcases zaD hv with ⟨j,u,rfl,rfl⟩ | ⟨y,u,rfl,rfl⟩
   ·rw [znI] at h;exact SeqAt.EqAt.str_int x t j u _ _ _ _ h
   ·rw [zmN] at h;exact wpAny_eqBool_str h
 «strs» := fun k x t v h=>by
  rcases zaD h with ⟨i,u,rfl,e⟩ | ⟨y,u,rfl,e⟩
  ·exact nomatch e
  ·injection e with e1 _
   subst e1
   cases v<;>rfl
theorem zg3 (prog:Program)(w:World)(i:Int)(t:Tok) : (zaL prog w).is (.inl i) (.int i t)=true:=zj7 i t
theorem zg4 (prog:Program)(w:World)(x:Str)(t:Tok) : (zaL prog w).is (.inr x) (.str x t)=true:=ziO x t
inductive V where
 | non | bl (b:Bool) | int (i:Int) | str (x:Str) | byt (b:Array UInt8) | flt (b:UInt64) | ref (a:Addr) | ty (n:String)
 deriving DecidableEq
def RelV:V->Value->Prop
 | .non,u=>u=Value.none
 | .bl b,u=>u=Value.bool b
 | .int i,u=>∃ t,u=Value.int i t
 | .str x,u=>∃ t,u=Value.str x t
 | .byt b,u=>∃ t,u=Value.bytes b t
 | .flt b,u=>∃ t,u=Value.float b t
 | .ref a,u=>u=Value.ref a
 | .ty n,u=>u=Value.type n
abbrev Vals:List V->List Value->Prop:=Paired RelV
theorem Vals.length {xs:List V}{us:List Value}(r:Vals xs us) : xs.length=us.length:=Paired.length r
theorem Vals.get:∀ {xs:List V} {us:List Value} {i:Nat} {x:V},Vals xs us->xs[i]?=some x->∃ u,us[i]?=some u/\RelV x u
 | _,_,_,_,.nil,e=>by simp at e
 | _,_,0,_,.cons r _,e=>by simp at e;subst e;exact ⟨_,rfl,r⟩
 | _,_,i+1,x,.cons _ t,e=>by
  obtain ⟨u,h1,h2⟩:=Vals.get (i:=i) (x:=x) t (by simpa using e)
  exact ⟨u,by simpa using h1,h2⟩
theorem Vals.append:∀ {xs ys:List V} {us ws:List Value},Vals xs us->Vals ys ws->Vals (xs++ys) (us++ws)
 | _,_,_,_,.nil,s=>s
 | _,_,_,_,.cons r t,s=>.cons r (Vals.append t s)
theorem Vals.take:∀ {xs:List V} {us:List Value} (n:Nat),Vals xs us->Vals (xs.take n) (us.take n)
 | _,_,0,_=>.nil
 | _,_,_+1,.nil=>.nil
 | _,_,n+1,.cons r t=>.cons r (Vals.take n t)
theorem Vals.drop:∀ {xs:List V} {us:List Value} (n:Nat),Vals xs us->Vals (xs.drop n) (us.drop n)
 | _,_,0,r=>r
 | _,_,_+1,.nil=>.nil
 | _,_,n+1,.cons _ t=>Vals.drop n t
def RelO:Option V->Option Value->Prop
 | some v,some u=>RelV v u
 | none,none=>True
 | _,_=>False
def KV {κ:Type} : List (κ×V)->List (κ×Value)->Prop:=Paired fun (p:κ×V) (q:κ×Value)=>p.1=q.1/\RelV p.2 q.2
def kV:Key->V
 | .inl i=>.int i
 | .inr x=>.str x
inductive HO where
  | lst (xs:List V)
  | tup (xs:List V)
  | dK (kvs:List (Key×V)) | dT (kvs:List (List Key×V))
  | set (S:Int->Bool) (n:Nat)
  | ins (C dx:Addr) (fs:List (Str×V))
  | own (x:Addr)
  | xd (fs:List (Str×V))
  | met (f x:Addr)
  | rng (lo hi:Int)
  | frz (o:Obj) (u:HO)
  | tbl (ps:Array Value)
  | ext (φ:Heap->Prop)
abbrev Hp:=Addr->Option HO
def upd (H:Hp)(a:Addr)(o:HO) : Hp:=fun b=>if b=a then some o else H b
theorem zaa {H:Hp}{a:Addr}{o:HO} : upd H a o a=some o:=by unfold upd;rw [if_pos rfl]
theorem zam {H:Hp}{a b:Addr}{o:HO}(h:b≠a) : upd H a o b=H b:=by unfold upd;rw [if_neg h]
theorem zkA {H:Hp}{a b:Addr}{o u:HO}(h:H a=some o)(h':H b=some u)(d:o≠u) : a≠b:=by
 intro e;subst e;rw [h] at h';exact d (Option.some.inj h')
theorem zaG {H:Hp}{a b:Addr}{o:HO}(h:H a=some o)(h':H b=none) : a≠b:=by
 intro e;subst e;rw [h] at h';cases h'
section
variable (P:Program)(w:World)
def ObjOk (H:Hp)(h:Heap)(a:Addr) : HO->Prop
 | .lst xs=>xs.length<=sizeLine/\∃ (its:List Value) (n:Nat),Vals xs its/\h.get? a=some { cls:=.type "list", data:=.seq its.toArray n }
 | .tup xs=>xs.length<=sizeLine/\∃ its:List Value,Vals xs its/\IsTup h a its.toArray
 | .dK kvs=>kvs.length<=sizeLine/\(a == sysModules)=false/\∃ vs,KV kvs vs/\h.DictOf (zaL P w) a vs
 | .dT kvs => kvs.length ≤ sizeLine ∧ (a == sysModules) = false ∧ ∃ xs : List (List Key × Addr × Value),
   Paired (fun (p:List Key×V) (q:List Key×Addr×Value)=>p.1=q.1/\H q.2.1=some (.tup (p.1.map kV))/\RelV p.2 q.2.2) kvs xs /\
   ∃ o es ep,h.get? a=some o/\o.ExactDict/\o.data=.dict es ep/\es.toList=xs.map (entryOfKey (tupleKind (zaL P w)))/\(xs.map (·.1)).Nodup
 | .set S n=>h.SetOf (intKind P w) a S n
 | .ins C dx fs => H dx = some (.own a) ∧ fs.length ≤ 1000 ∧ dx ≠ a ∧ h.get? a = some (W.instObj C dx) ∧
   ∃ mA,h.Ns1 dx mA/\(∀ f,RelO (fs.lookup f) (mA f))/\PySem.Within mA (fs.map (·.1))
 | .own _=>∃ o,h.get? a=some o
 | .xd fs=>∃ mA,h.Ns1 a mA/\∀ f,RelO (fs.lookup f) (mA f)
 | .rng lo hi=>∃ t u v,h.get? a=some { cls:=.type "range", data:=.fields #[.int lo t,.int hi u,.int 1 v] }
 | .frz o u=>h.get? a=some o/\ObjOk H h a u
 | .tbl ps=>h.get? a=some { cls:=.none,data:=.fields ps }
 | .met f x=>h.get? a=some (W.methodObj (.ref f) (.ref x))
 | .ext φ=>φ h/\(∃ o,h.get? a=some o)/\∀ h1 h2:Heap,φ h1->(∀ o,h1.get? a=some o->h2.get? a=some o)->φ h2
def HOk (H:Hp)(h:Heap) : Prop:=∀ a o,H a=some o->ObjOk P w H h a o
end
section
variable {P:Program}{w:World}{H H':Hp}{h h':Heap}{a:Addr}{o:HO}
theorem ObjOk.lt (x:ObjOk P w H h a o) : a<h.objs.size:=by
 cases o with
 | lst xs=>obtain ⟨_,_,_,_,e⟩:=x;exact Heap.lt_size e
 | tup xs=>obtain ⟨_,_,_,p⟩:=x;exact p.lt
 | dK kvs=>obtain ⟨_,_,_,_,o,_,_,e,_⟩:=x;exact Heap.lt_size e
 | dT kvs=>obtain ⟨_,_,_,_,o,_,_,e,_⟩:=x;exact Heap.lt_size e
 | set S n=>obtain ⟨o,_,_,_,e,_⟩:=x;exact Heap.lt_size e
 | ins C dx fs=>obtain ⟨_,_,_,e,_⟩:=x;exact Heap.lt_size e
 | own y=>obtain ⟨_,e⟩:=x;exact Heap.lt_size e
 | xd fs=>obtain ⟨_,⟨_,_,_,e,_⟩,_⟩:=x;exact Heap.lt_size e
 | rng lo hi=>obtain ⟨_,_,_,e⟩:=x;exact Heap.lt_size e
 | frz ob u=>obtain ⟨e,_⟩:=x;exact Heap.lt_size e
 | tbl ps=>exact Heap.lt_size (show h.get? a=some _ from x)
 | met f y=>exact Heap.lt_size (show h.get? a=some _ from x)
 | ext φ=>obtain ⟨_,⟨_,e⟩,_⟩:=x;exact Heap.lt_size e
theorem Paired.mapP {α β:Type}{F G:α->β->Prop} : ∀ {l₁:List α} {l₂:List β},Paired F l₁ l₂->(∀ a b,F a b->G a b)->Paired G l₁ l₂
 | _,_,.nil,_=>.nil
 | _,_,.cons r t,f=>.cons (f _ _ r) (Paired.mapP t f)
theorem ObjOk.stay (x:ObjOk P w H h a o)(k:∀ b u,(b=a\/H b=some (.own a))->h.get? b=some u->h'.get? b=some u)
  (ho:∀ b,H b=some (.own a)->H' b=some (.own a)) (ht:∀ b xs,H b=some (.tup xs)->H' b=some (.tup xs)) : ObjOk P w H' h' a o:=by
 induction o with
 | lst xs=>obtain ⟨z,its,n,r,e⟩:=x;exact ⟨z,its,n,r,k _ _ (.inl rfl) e⟩
 | tup xs=>obtain ⟨z,its,r,ob,e,c⟩:=x;exact ⟨z,its,r,ob,k _ _ (.inl rfl) e,c⟩
 | dK kvs=>obtain ⟨z,y,vs,r,ob,es,ep,e,c⟩:=x;exact ⟨z,y,vs,r,ob,es,ep,k _ _ (.inl rfl) e,c⟩
 | dT kvs =>
  obtain ⟨z,y,xs,r,ob,es,ep,e,c⟩:=x
  exact ⟨z,y,xs,Paired.mapP r fun p q z=>⟨z.1,ht _ _ z.2.1,z.2.2⟩,ob,es,ep,k _ _ (.inl rfl) e,c⟩
 | set S n=>obtain ⟨ob,es,ep,t,e,c⟩:=x;exact ⟨ob,es,ep,t,k _ _ (.inl rfl) e,c⟩
 | ins C dx fs =>
  obtain ⟨d,z,ne,e,mA,⟨od,es,ep,e2,c⟩,r⟩:=x
  exact ⟨ho _ d,z,ne,k _ _ (.inl rfl) e,mA,⟨od,es,ep,k _ _ (.inr d) e2,c⟩,r⟩
 | own y=>obtain ⟨ob,e⟩:=x;exact ⟨ob,k _ _ (.inl rfl) e⟩
 | xd fs=>obtain ⟨mA,⟨od,es,ep,e,c⟩,r⟩:=x;exact ⟨mA,⟨od,es,ep,k _ _ (.inl rfl) e,c⟩,r⟩
 | rng lo hi=>obtain ⟨t,u,v,e⟩:=x;exact ⟨t,u,v,k _ _ (.inl rfl) e⟩
 | frz ob u ih=>obtain ⟨e,q⟩:=x;exact ⟨k _ _ (.inl rfl) e,ih q⟩
 | tbl ps =>
  have e:h.get? a=some { cls:=.none,data:=.fields ps }:=x
  show h'.get? a=some { cls:=.none,data:=.fields ps }
  exact k a _ (.inl rfl) e
 | met f y =>
  have e:h.get? a=some (W.methodObj (.ref f) (.ref y)):=x
  show h'.get? a=some (W.methodObj (.ref f) (.ref y))
  exact k a _ (.inl rfl) e
 | ext φ=>obtain ⟨p,⟨o,e⟩,st⟩:=x;exact ⟨st _ _ p fun o q=>k _ _ (.inl rfl) q,⟨o,k _ _ (.inl rfl) e⟩,st⟩
theorem HOk.lt (x:HOk P w H h)(e:H a=some o) : a<h.objs.size:=(x a o e).lt
theorem HOk.fresh (x:HOk P w H h)(e:h.objs.size<=a) : H a=none:=by
 cases q:H a with
 | none=>rfl
 | some u=>exact absurd (Nat.lt_of_lt_of_le (x.lt q) e) (Nat.lt_irrefl _)
theorem HOk.kept (x:HOk P w H h)(k:∀ b u,h.get? b=some u->h'.get? b=some u) : HOk P w H h':=fun a o e =>
 (x a o e).stay (fun b u _ q=>k b u q) (fun _ q=>q) fun _ _ q=>q
theorem HOk.laid (x:HOk P w H h)(k:∀ b u,h.get? b=some u->h'.get? b=some u)(hp:h.objs.size<=a)(new:ObjOk P w (upd H a o) h' a o) : HOk P w (upd H a o) h':=fun b u e=>by
 have hn:=x.fresh hp
 by_cases hb:b=a
 ·subst hb;rw [zaa] at e;cases e;exact new
 ·rw [zam hb] at e
  exact (x b u e).stay (fun c v _ q=>k c v q) (fun c q=>by rw [zam (zaG q hn)];exact q) fun c xs q=>by rw [zam (zaG q hn)];exact q
end
def Rd (H:Hp)(a:Addr)(u:HO) : Prop:=H a=some u\/∃ o,H a=some (.frz o u)
theorem Rd.ok {P:Program}{w:World}{H:Hp}{h:Heap}{a:Addr}{u:HO}(r:Rd H a u)(x:HOk P w H h) : ObjOk P w H h a u:=by
 rcases r with r | ⟨o,r⟩
 ·exact x a u r
 ·obtain ⟨_,q⟩:=x a _ r
  exact q
def Mut:Option HO->Prop
 | some (.lst _)=>True
 | some (.dK _)=>True
 | some (.dT _)=>True
 | some (.set _ _)=>True
 | some (.ins _ _ _)=>True
 | some (.ext _)=>True
 | _=>False
section
variable {P:Program}{w:World}{H:Hp}{h h':Heap}{x e:Addr}{o':HO}
theorem HOk.write (ok:HOk P w H h)(mu:Mut (H x))(he:e=x\/H e=some (.own x))(k:∀ b u,b≠e->h.get? b=some u->h'.get? b=some u)(heo:∃ u,h'.get? e=some u)
  (new:ObjOk P w (upd H x o') h' x o') : HOk P w (upd H x o') h':=fun b u q=>by
 have nown:∀ c y,H c=some (.own y)->c≠x:=fun c y r z=>by subst z;rw [r] at mu;exact mu
 have ntup:∀ c xs,H c=some (.tup xs)->c≠x:=fun c xs r z=>by subst z;rw [r] at mu;exact mu
 by_cases hb:b=x
 ·subst hb;rw [zaa] at q;cases q;exact new
 ·rw [zam hb] at q
  by_cases hbe:b=e
  ·have q':H b=some (.own x):=by
    rcases he with z | z
    ·exact absurd (hbe.trans z) hb
    ·rw [hbe];exact z
   rw [q] at q';cases q'
   obtain ⟨v,hv⟩:=heo
   exact ⟨v,by rw [hbe];exact hv⟩
  ·refine (ok b u q).stay (fun c v hc r=>k c v ?_ r) (fun c r=>by rw [zam (nown c b r)];exact r) fun c xs r=>by rw [zam (ntup c xs r)];exact r
   rcases hc with rfl | hc
   ·exact hbe
   ·rintro rfl
    rcases he with z | z
    ·exact nown c b hc z
    ·rw [hc] at z;cases z;exact hb rfl
end
structure Un (fs ex:List Addr) (H H':Hp) (h h':Heap) : Prop where
 keep:∀ b o,h.get? b=some o->H b=none->b∉fs->b∉ex->h'.get? b=some o
 slot:∀ b o,h.get? b=some o->H b=none->b∈fs->b∉ex->∃ sl,h'.get? b=some { o with slots:=sl }
 free:∀ b o,h.get? b=some o->H b=none->b∉ex->H' b=none
 there:∀ b o,h.get? b=some o->b∉ex->∃ o',h'.get? b=some o'
 tups:∀ b xs,H b=some (.tup xs)->H' b=some (.tup xs)
 frzs:∀ b o u,H b=some (.frz o u)->H' b=some (.frz o u)
 tbls:∀ b ps,H b=some (.tbl ps)->∃ more,H' b=some (.tbl (ps++more))
section
variable {fs fs' ex ex':List Addr}{H H1 H2:Hp}{h h1 h2 h':Heap}{a x e:Addr}{o:HO}
theorem Un.any (u:Un fs ex H H1 h h1){b:Addr}{ob:Obj}(q:h.get? b=some ob)(n:H b=none)(hx:b∉ex) : ∃ sl,h1.get? b=some { ob with slots:=sl }:=by
 by_cases hb:b∈fs
 ·exact u.slot b ob q n hb hx
 ·exact ⟨ob.slots,u.keep b ob q n hb hx⟩
theorem Un.kept (k:∀ b u,h.get? b=some u->h'.get? b=some u) : Un fs ex H H h h' :=
 ⟨fun b ob q _ _ _=>k b ob q,fun b ob q _ _ _=>⟨ob.slots,k b ob q⟩,fun _ _ _ n _=>n,fun b ob q _=>⟨ob,k b ob q⟩,fun _ _ q=>q,fun _ _ _ q=>q,fun _ ps q=>⟨#[],by rw [q];simp⟩⟩
theorem Un.refl:Un fs ex H H h h:=Un.kept fun _ _ q=>q
theorem Un.laid (k:∀ b u,h.get? b=some u->h'.get? b=some u)(hp:h.objs.size<=a)(hn:H a=none) : Un fs ex H (upd H a o) h h' where
 keep:=fun b u q _ _ _=>k b u q
 slot:=fun b u q _ _ _=>⟨u.slots,k b u q⟩
 free:=fun b u q n _=>by rw [zam (Nat.ne_of_lt (Nat.lt_of_lt_of_le (Heap.lt_size q) hp))];exact n
 there:=fun b u q _=>⟨u,k b u q⟩
 tups:=fun b xs q=>by rw [zam (zaG q hn)];exact q
 frzs:=fun b u xs q=>by rw [zam (zaG q hn)];exact q
 tbls:=fun b ps q=>⟨#[],by rw [zam (zaG q hn),q];simp⟩
theorem Un.write (mu:Mut (H x))(he:e=x\/H e=some (.own x))(k:∀ b u,b≠e->h.get? b=some u->h'.get? b=some u)(heo:∃ u,h'.get? e=some u) : Un fs ex H (upd H x o) h h':=by
 have hx:∀ b,H b=none->b≠x:=fun b n z=>by subst z;rw [n] at mu;exact mu
 have hb:∀ b,H b=none->b≠e:=fun b n z=>by
  subst z
  rcases he with r | r
  ·exact hx b n r
  ·rw [n] at r;cases r
 have hm:∀ b u,H b=some u->¬ Mut (some u)->b≠x:=fun b u q nm z=>by subst z;rw [q] at mu;exact nm mu
 refine ⟨fun b u q n _ _=>k b u (hb b n) q,fun b u q n _ _=>⟨u.slots,k b u (hb b n) q⟩,fun b u q n _=>by rw [zam (hx b n)];exact n,fun b u q _=>?_,
  fun b xs q=>by rw [zam (hm b _ q fun z=>z)];exact q,fun b u xs q=>by rw [zam (hm b _ q fun z=>z)];exact q,fun b ps q=>⟨#[],by rw [zam (hm b _ q fun z=>z),q];simp⟩⟩
 by_cases hbe:b=e
 ·subst hbe;exact heo
 ·exact ⟨u,k b u hbe q⟩
end
def trk (h:Heap)(H:Hp) : List Addr:=(List.range h.objs.size).filter fun a=>(H a).isSome
def hidT (h:Heap)(H:Hp) : Heap:=W.hideAll h (trk h H)
theorem zj2 (h:Heap)(H:Hp) : (hidT h H).objs.size=h.objs.size:=W.hideAll_size _ _
theorem zkJ {h:Heap}{H:Hp}{b:Addr}{o:Obj}(e:h.get? b=some o)(n:H b=none) : (hidT h H).get? b=some o :=
 W.hideAll_get _ e fun hm=>by
  have q:(H b).isSome=true:=(List.mem_filter.mp hm).2
  rw [n] at q;simp at q
theorem zlK {h:Heap}{H:Hp}{b:Addr}{o:Obj}(e:(hidT h H).get? b=some o) : h.get? b=some o/\H b=none:=by
 have e':h.get? b=some o:=W.of_hideAll (trk h H) e
 refine ⟨e',?_⟩
 cases q:H b with
 | none=>rfl
 | some x =>
  have hm:b∈trk h H:=List.mem_filter.mpr ⟨List.mem_range.mpr (Heap.lt_size e'),by simp [q]⟩
  have z:(hidT h H).get? b=none:=W.hideAll_none (trk h H) hm
  rw [z] at e;cases e
def zlY (g h:Heap)(L:Addr) : List (Addr×Obj):=(List.range h.objs.size).filterMap fun a=>if a=L\/(g.get? a).isSome=true then none else (h.get? a).map fun o=>(a,o)
def rest (g h:Heap)(L d:Addr) : List (Addr×Obj):=(zlY g h L).filter fun p=>decide (p.1≠d)
structure Mod (K:W.Frag) (mg:Str->Option Value) (base:Heap) : Prop where
 kin:K.In base
 glob:base.Ns mainGlobals mg
 blt:∃ mb,base.Ns builtinsNs mb/\∀ x:Str,x ≠ "__name__" -> mb x=bootBuiltins x
 nolimit:base.NoLimit
structure Cx where
 prog:Program
 w:World
 K:W.Frag
 mg:Str->Option Value
 base:Heap
 A:Around
 N:List Str
 s₀:Shared
 H₀:Hp
 env:Env
 outer:List Env
 stack:List Env
 ex:List Addr
 fn:Str->Bool
 calm:Bool
 pn:List (Addr×Obj)
 xe:Value->Shared->Prop
def frs (l:List Env) : List Addr:=l.filterMap (·.frame)
abbrev Cx.fs (X:Cx) : List Addr:=frs X.outer
def Vis (sc:Scope)(x:Str) : Prop:=sc.names.lookup x=some .local\/sc.names.lookup x=some .cell\/sc.names.lookup x=some .free
def Loc (sc:Scope)(x:Str) : Prop:=sc.names.lookup x=some .local\/sc.names.lookup x=some .cell
def Look (env:Env)(h:Heap)(m:Str->Option Value)(x:Str)(u:Value) : Prop :=
 (env.kindOf x=some .local/\m x=some u)\/((env.kindOf x=some .cell\/env.kindOf x=some .free)/\∃ c,env.cells.lookup x=some c/\h.IsCell c (some u))
structure Cx.Ok (X:Cx) : Prop where
 mod:Mod X.K X.mg X.base
 kind:X.env.scope.kind=.function
 glob:X.env.globals=mainGlobals
 blt:X.env.builtins=builtinsNs
 above:X.s₀.heap.objs.size<=X.env.locals
 inj:∀ x y c,X.env.cells.lookup x=some c->X.env.cells.lookup y=some c->x=y
 has:∀ x,(X.env.kindOf x=some .cell\/X.env.kindOf x=some .free)->∃ c,X.env.cells.lookup x=some c
 cab:∀ x c,X.fn x=true->X.env.cells.lookup x=some c->X.s₀.heap.objs.size<=c
 hd:X.calm=true->X.A.handled=none
 frames:X.A.frames=some X.stack
 stk:X.stack=X.outer\/(X.stack=X.env::X.outer/\X.env.frame=some X.env.locals)
 exf:∀ b∈X.ex,b≠X.env.locals/\∀ x c,X.env.cells.lookup x=some c->c≠b
 bs:∀ b o,X.base.get? b=some o->X.s₀.heap.get? b=some o/\X.H₀ b=none
 bsz:X.base.objs.size<=X.s₀.heap.objs.size
 noex:∀ b o,X.base.get? b=some o->b∉X.ex
 exfs:∀ b∈X.ex,b∉X.fs
 funs:X.s₀.heap.FunFrames X.base X.outer
 frf:∀ b∈X.fs,X.H₀ b=none
structure Inv (X:Cx) (pins:List (Addr×Obj)) (σ:List (Option V)) (H:Hp) (s:Shared) : Prop where
 ok:X.Ok
 os:s.os=X.s₀.os
 bare:AllBare s.gens
 base:Un X.fs X.ex X.H₀ H X.s₀.heap s.heap
 loc:∃ m,s.heap.Ns X.env.locals m/\∀ (i:Nat) (x:Str) (v:V),X.N[i]?=some x->σ[i]?=some (some v)->Vis X.env.scope x->∃ u,RelV v u/\Look X.env s.heap m x u
 cell:∀ x c,X.env.cells.lookup x=some c->∃ v,s.heap.IsCell c v
 free:H X.env.locals=none
 freeC:∀ x c,X.env.cells.lookup x=some c->H c=none
 pin:∀ p∈X.pn++pins,s.heap.get? p.1=some p.2/\H p.1=none/\p.1≠X.env.locals/\p.1∉X.fs/\∀ v,p.2.data≠.cell v
 hok:HOk X.prog X.w H s.heap
 len:σ.length=X.N.length
section
variable {X:Cx}{pins:List (Addr×Obj)}{σ:List (Option V)}{H H':Hp}{s:Shared}{h':Heap}
theorem Cx.Ok.nofr (ok:X.Ok){b:Addr}{o:Obj}(e:X.base.get? b=some o) : b∉X.fs:=fun hb=>by
 have:=(ok.funs.mem hb).1
 rw [e] at this;cases this
theorem Inv.bs (I:Inv X pins σ H s) : ∀ b o,X.base.get? b=some o->s.heap.get? b=some o/\H b=none:=fun b o e =>
 ⟨I.base.keep b o (I.ok.bs b o e).1 (I.ok.bs b o e).2 (I.ok.nofr e) (I.ok.noex b o e),I.base.free b o (I.ok.bs b o e).1 (I.ok.bs b o e).2 (I.ok.noex b o e)⟩
theorem Inv.bk (I:Inv X pins σ H s) : ∀ b o,X.base.get? b=some o->s.heap.get? b=some o:=fun b o e=>(I.bs b o e).1
theorem Inv.mod (I:Inv X pins σ H s) : Mod X.K X.mg X.base:=I.ok.mod
theorem Inv.kIn (I:Inv X pins σ H s) : X.K.In s.heap:=I.ok.mod.kin.keeps I.bk
theorem Inv.fr (I:Inv X pins σ H s) : ∃ m,Fr X.base X.env.locals s.heap m :=
 let ⟨m,hn,_⟩:=I.loc
 ⟨m,hn,I.bk,Nat.le_trans I.ok.bsz I.ok.above⟩
theorem Inv.lt (I:Inv X pins σ H s) : X.env.locals<s.heap.objs.size:=let ⟨_,hn,_⟩:=I.loc;hn.lt
theorem Inv.sz (I:Inv X pins σ H s) : X.s₀.heap.objs.size<=s.heap.objs.size:=Nat.le_trans I.ok.above (Nat.le_of_lt I.lt)
theorem Inv.nofs (I:Inv X pins σ H s){a:Addr}(h:s.heap.objs.size<=a) : a∉X.fs:=fun hb=>by
 obtain ⟨_,o,ho,_⟩:=I.ok.funs.mem hb
 exact absurd (Nat.lt_of_lt_of_le (Heap.lt_size ho) (Nat.le_trans I.sz h)) (Nat.lt_irrefl _)
theorem Inv.cne (I:Inv X pins σ H s) : ∀ x c,X.env.cells.lookup x=some c->c≠X.env.locals:=fun x c e z=>by
 obtain ⟨v,o,ho,hd⟩:=I.cell x c e
 obtain ⟨m,⟨o',es,ep,ho',hd',_⟩,_⟩:=I.loc
 rw [z,ho'] at ho;cases ho;rw [hd'] at hd;cases hd
theorem Inv.funs (I:Inv X pins σ H s) : s.heap.FunFrames X.base X.outer:=by
 have all:∀ (l:List Env),(∀ b∈frs l,b∈X.fs)->X.s₀.heap.FunFrames X.base l->s.heap.FunFrames X.base l:=by
  intro l
  induction l with
  | nil=>intro _ _;trivial
  | cons env r ih =>
   intro hs hl
   obtain ⟨hk,⟨L,o,hf,hn,ho,hd⟩,hr⟩:=hl
   have hL:L∈X.fs:=hs L (by unfold frs;rw [List.filterMap_cons,hf];exact List.mem_cons_self)
   obtain ⟨sl,e⟩:=I.base.slot L o ho (I.ok.frf L hL) hL fun z=>I.ok.exfs L z hL
   exact ⟨hk,⟨L,_,hf,hn,e,hd⟩,ih (fun b hb=>hs b (by unfold frs;rw [List.filterMap_cons,hf];exact List.mem_cons_of_mem _ hb)) hr⟩
 exact all X.outer (fun _ hb=>hb) I.ok.funs
theorem Inv.stack (I:Inv X pins σ H s) : s.heap.FunFrames X.base X.stack:=by
 rcases I.ok.stk with e | ⟨e,hf⟩
 ·rw [e];exact I.funs
 ·rw [e]
  obtain ⟨m,hn,_⟩:=I.loc
  refine .cons (by rw [I.ok.kind];decide) hf hn ?_ I.funs
  exact Heap.get?_none_of_le (Nat.le_trans I.ok.bsz I.ok.above)
theorem Inv.stkSub (I:Inv X pins σ H s) : ∀ b∈frs X.stack,b∈X.env.locals::X.fs:=fun b hb=>by
 rcases I.ok.stk with e | ⟨e,hf⟩
 ·rw [e] at hb;exact List.mem_cons_of_mem _ hb
 ·rw [e] at hb
  unfold frs at hb
  rw [List.filterMap_cons,hf] at hb
  exact hb
theorem Inv.stkFree (I:Inv X pins σ H s) : ∀ b∈frs X.stack,H b=none:=fun b hb=>by
 rcases List.mem_cons.mp (I.stkSub b hb) with e | hb
 ·rw [e];exact I.free
 ·obtain ⟨_,o,ho,_⟩:=I.ok.funs.mem hb
  exact I.base.free b o ho (I.ok.frf b hb) fun z=>I.ok.exfs b z hb
theorem Inv.step {g':Array GenState}{t':Nat}{d':Drawn}{ch:List Addr}(I:Inv X pins σ H s)
  (hch:∀ b∈ch,(b∈X.ex\/X.s₀.heap.objs.size<=b)/\b≠X.env.locals/\(∀ x c,X.env.cells.lookup x=some c->c≠b)/\∀ p∈X.pn++pins,p.1≠b)
  (keep:∀ b o,b≠X.env.locals->b∉X.fs->b∉ch->s.heap.get? b=some o->H b=none->h'.get? b=some o)
  (slot:∀ b o,b≠X.env.locals->b∈X.fs->b∉ch->s.heap.get? b=some o->H b=none->∃ sl,h'.get? b=some { o with slots:=sl }) (free:∀ b o,b∉ch->s.heap.get? b=some o->H b=none->H' b=none)
  (there:∀ b o,b∉ch->s.heap.get? b=some o->∃ o',h'.get? b=some o')
  (tups:∀ b xs,H b=some (.tup xs)->H' b=some (.tup xs)) (frzs:∀ b o u,H b=some (.frz o u)->H' b=some (.frz o u)) (tbls:∀ b ps,H b=some (.tbl ps)->∃ more,H' b=some (.tbl (ps++more)))
  (ns:∀ m,s.heap.Ns X.env.locals m->h'.Ns X.env.locals m) (hok:HOk X.prog X.w H' h') (hg:AllBare g') :
  Inv X pins σ H' { s with heap:=h',gens:=g',drawn:=d',toks:=t' }:=by
 have neL:∀ b o,X.s₀.heap.get? b=some o->b≠X.env.locals:=fun b o e=>Nat.ne_of_lt (Nat.lt_of_lt_of_le (Heap.lt_size e) I.ok.above)
 have neC:∀ b o,X.s₀.heap.get? b=some o->b∉X.ex->b∉ch:=fun b o e hx hb=>by
  rcases (hch b hb).1 with z | z
  ·exact hx z
  ·exact absurd (Nat.lt_of_lt_of_le (Heap.lt_size e) z) (Nat.lt_irrefl _)
 have cellK:∀ x c,X.env.cells.lookup x=some c->∀ v,s.heap.IsCell c v->h'.IsCell c v:=fun x c e v ⟨o,ho,hd⟩=>by
  have nch:c∉ch:=fun z=>(hch c z).2.2.1 x c e rfl
  by_cases hc:c∈X.fs
  ·obtain ⟨sl,q⟩:=slot c o (I.cne x c e) hc nch ho (I.freeC x c e)
   exact ⟨_,q,hd⟩
  ·exact ⟨o,keep c o (I.cne x c e) hc nch ho (I.freeC x c e),hd⟩
 refine ⟨I.ok,I.os,hg,⟨fun b o e n hb hx=>?_,fun b o e n hb hx=>?_,fun b o e n hx=>?_,fun b o e hx=>?_,fun b xs e=>tups b xs (I.base.tups b xs e),fun b o xs e=>frzs b o xs (I.base.frzs b o xs e),fun b ps e=>?_⟩,?_,fun x c e=>?_,?_,fun x c e=>?_,fun p hp=>?_,hok,I.len⟩
 ·exact keep b o (neL b o e) hb (neC b o e hx) (I.base.keep b o e n hb hx) (I.base.free b o e n hx)
 ·obtain ⟨sl,e1⟩:=I.base.slot b o e n hb hx
  obtain ⟨sl',e2⟩:=slot b _ (neL b o e) hb (neC b o e hx) e1 (I.base.free b o e n hx)
  exact ⟨sl',e2⟩
 ·obtain ⟨o',e1⟩:=I.base.there b o e hx
  exact free b o' (neC b o e hx) e1 (I.base.free b o e n hx)
 ·obtain ⟨o',e1⟩:=I.base.there b o e hx
  exact there b o' (neC b o e hx) e1
 ·obtain ⟨m1,e1⟩:=I.base.tbls b ps e
  obtain ⟨m2,e2⟩:=tbls b _ e1
  exact ⟨m1++m2,by rw [e2,Array.append_assoc]⟩
 ·obtain ⟨m,hn,hl⟩:=I.loc
  refine ⟨m,ns m hn,fun i x v e1 e2 e3=>?_⟩
  obtain ⟨u,r,l⟩:=hl i x v e1 e2 e3
  refine ⟨u,r,?_⟩
  rcases l with l | ⟨k,c,e,z⟩
  ·exact .inl l
  ·exact .inr ⟨k,c,e,cellK x c e _ z⟩
 ·obtain ⟨v,z⟩:=I.cell x c e
  exact ⟨v,cellK x c e v z⟩
 ·obtain ⟨m,⟨o,_,_,ho,_⟩,_⟩:=I.loc
  exact free _ o (fun z=>(hch _ z).2.1 rfl) ho I.free
 ·obtain ⟨v,o,ho,hd⟩:=I.cell x c e
  exact free c o (fun z=>(hch c z).2.2.1 x c e rfl) ho (I.freeC x c e)
 ·obtain ⟨e,n,ne,nf,d⟩:=I.pin p hp
  have nch:p.1∉ch:=fun z=>(hch p.1 z).2.2.2 p hp rfl
  exact ⟨keep p.1 p.2 ne nf nch e n,free p.1 p.2 nch e n,ne,nf,d⟩
theorem Inv.un {t':Nat}(I:Inv X pins σ H s)(u:Un X.fs [] H H' s.heap h')(hok:HOk X.prog X.w H' h') : Inv X pins σ H' { s with heap:=h',toks:=t' }:=by
 obtain ⟨m,⟨o,es,ep,ho,r⟩,_⟩:=id I.loc
 obtain ⟨sl,hL⟩:=u.any ho I.free (by simp)
 exact I.step (g':=s.gens) (d':=s.drawn) (ch:=[]) (fun _ z=>nomatch z) (fun b o _ hb _ e n=>u.keep b o e n hb (by simp)) (fun b o _ hb _ e n=>u.slot b o e n hb (by simp)) (fun b o _ e n=>u.free b o e n (by simp)) (fun b o _ e=>u.there b o e (by simp)) u.tups u.frzs u.tbls (fun m' hm=>by
  obtain ⟨o',es',ep',ho',r'⟩:=hm
  rw [ho] at ho';cases ho'
  exact ⟨_,es',ep',hL,r'⟩) hok I.bare
theorem Inv.call {g':Array GenState}{t':Nat}{d':Drawn}{ch:List Addr}(I:Inv X pins σ H s)(u:Un (frs X.stack) ch H H' s.heap h')(hok:HOk X.prog X.w H' h')(hg:AllBare g')
  (hch:∀ b∈ch,(b∈X.ex\/X.s₀.heap.objs.size<=b)/\b≠X.env.locals/\(∀ x c,X.env.cells.lookup x=some c->c≠b)/\∀ p∈X.pn++pins,p.1≠b) :
  Inv X pins σ H' { s with heap:=h',gens:=g',drawn:=d',toks:=t' }:=by
 obtain ⟨m,⟨o,es,ep,ho,r⟩,_⟩:=id I.loc
 obtain ⟨sl,hL⟩:=u.any ho I.free fun z=>(hch _ z).2.1 rfl
 exact I.step (ch:=ch) hch (fun b o hL hb hc e n=>u.keep b o e n (fun z=>(List.mem_cons.mp (I.stkSub b z)).elim hL hb) hc) (fun b o _ _ hc e n=>u.any e n hc) (fun b o hc e n=>u.free b o e n hc) (fun b o hc e=>u.there b o e hc) u.tups u.frzs u.tbls (fun m' hm=>by
  obtain ⟨o',es',ep',ho',r'⟩:=hm
  rw [ho] at ho';cases ho'
  exact ⟨_,es',ep',hL,r'⟩) hok hg
theorem Inv.turned {t':Nat}{it:Addr}(I:Inv X pins σ H s)(k:∀ b o,b≠it->s.heap.get? b=some o->h'.get? b=some o)(hn:H it=none)(hL:it≠X.env.locals)
  (h1:it∈X.ex\/X.s₀.heap.objs.size<=it) (h2:∀ x c,X.env.cells.lookup x=some c->c≠it) (h3:∀ p∈X.pn++pins,p.1≠it) : Inv X pins σ H { s with heap:=h',toks:=t' }:=by
 have nit:∀ b u,H b=some u->b≠it:=fun b u e z=>by rw [z,hn] at e;cases e
 refine I.step (g':=s.gens) (d':=s.drawn) (ch:=[it]) (fun b hb=>?_) (fun b o _ _ hc e _=>k b o (fun z=>hc (by simp [z])) e) (fun b o _ _ hc e _=>⟨o.slots,k b o (fun z=>hc (by simp [z])) e⟩) (fun _ _ _ _ n=>n)
  (fun b o hc e=>⟨o,k b o (fun z=>hc (by simp [z])) e⟩) (fun _ _ e=>e) (fun _ _ _ e=>e) (fun b ps e=>⟨#[],by rw [e];simp⟩) (fun m hm=>?_) (fun b u e=>?_) I.bare
 ·have e:b=it:=by simpa using hb
  subst e
  exact ⟨h1,hL,h2,h3⟩
 ·obtain ⟨o,es,ep,ho,r⟩:=hm
  exact ⟨o,es,ep,k _ o (Ne.symm hL) ho,r⟩
 ·refine (I.hok b u e).stay (fun c v hc q=>k c v ?_ q) (fun _ q=>q) fun _ _ q=>q
  rcases hc with z | z
  ·rw [z];exact nit b u e
  ·exact nit c _ z
theorem Inv.tok (I:Inv X pins σ H s)(t:Nat) : Inv X pins σ H { s with toks:=t }:=I.un (h':=s.heap) (t':=t) Un.refl I.hok
theorem Inv.kept {t':Nat}(I:Inv X pins σ H s)(k:∀ b u,s.heap.get? b=some u->h'.get? b=some u) : Inv X pins σ H { s with heap:=h',toks:=t' }:=I.un (Un.kept k) (I.hok.kept k)
theorem Inv.laid {a:Addr}{o:HO}{t':Nat}(I:Inv X pins σ H s)(k:∀ b u,s.heap.get? b=some u->h'.get? b=some u)(hp:s.heap.objs.size<=a)(new:ObjOk X.prog X.w (upd H a o) h' a o) :
  Inv X pins σ (upd H a o) { s with heap:=h',toks:=t' }:=I.un (Un.laid k hp (I.hok.fresh hp)) (I.hok.laid k hp new)
theorem Inv.write {x e:Addr}{o:HO}{t':Nat}(I:Inv X pins σ H s)(mu:Mut (H x))(he:e=x\/H e=some (.own x))(k:∀ b u,b≠e->s.heap.get? b=some u->h'.get? b=some u)(heo:∃ u,h'.get? e=some u)
  (new:ObjOk X.prog X.w (upd H x o) h' x o) : Inv X pins σ (upd H x o) { s with heap:=h',toks:=t' }:=I.un (Un.write mu he k heo) (I.hok.write mu he k heo new)
theorem Inv.pins_of {pins':List (Addr×Obj)}(I:Inv X pins σ H s)(h:∀ p∈pins',s.heap.get? p.1=some p.2/\H p.1=none/\p.1≠X.env.locals/\p.1∉X.fs/\∀ v,p.2.data≠.cell v) : Inv X pins' σ H s :=
 ⟨I.ok,I.os,I.bare,I.base,I.loc,I.cell,I.free,I.freeC,fun p hp=>(List.mem_append.mp hp).elim (fun z=>I.pin p (List.mem_append_left _ z)) (h p),I.hok,I.len⟩
theorem zhB {N:List Str}(hN:N.Nodup){i j:Nat}{x:Str}(a:N[i]?=some x)(b:N[j]?=some x) : i=j:=by
 obtain ⟨h1,e1⟩:=List.getElem?_eq_some_iff.mp a
 obtain ⟨h2,e2⟩:=List.getElem?_eq_some_iff.mp b
 exact (List.getElem_inj hN).mp (e1.trans e2.symm)
theorem zjE {M:Model}{A:Around}{E:Value->Shared->Prop}{i:Nat}{x:Str}{v:V}{u:Value}{Q:Unit->Shared->Prop}(I:Inv X pins σ H s)(hN:X.N.Nodup)(hi:X.N[i]?=some x)(hx:Loc X.env.scope x)(r:RelV v u)
  (h:∀ s',Inv X pins (σ.set i (some v)) H s'->(∃ a,Heap.SameBut a s.heap s'.heap/\(a=X.env.locals\/X.env.cells.lookup x=some a))->Q () s') (hf:X.fn x=true\/X.env.scope.names.lookup x=some .local:=by first | exact .inl rfl | exact .inr rfl | assumption) : wpAny M A (storeName X.env x u) Q E s:=by
 obtain ⟨m,hn,hl⟩:=id I.loc
 have hcls:(X.env.scope.kind == .class||(X.env.scope.kind == .module&&X.env.locals != X.env.globals))=false:=by rw [I.ok.kind];rfl
 have hiσ:i < σ.length:=by rw [I.len];exact (List.getElem?_eq_some_iff.mp hi).1
 have cne:=I.cne
 have tracked:∀ {a:Addr} {h':Heap},(∃ o,s.heap.get? a=some o/\H a=none)->Heap.SameBut a s.heap h'->HOk X.prog X.w H h':=fun {a h'} ha hs b ob e=>by
  obtain ⟨_,_,hfree⟩:=ha
  refine (I.hok b ob e).stay (fun c w' hc q=>(hs.2 c ?_).trans q) (fun _ q=>q) fun _ _ q=>q
  rintro rfl
  rcases hc with rfl | hc
  ·rw [hfree] at e;cases e
  ·rw [hfree] at hc;cases hc
 rcases hx with hk | hk
 ·refine wpAny_storeName_local hk hn (fun h' hn' hs=>?_) hcls
  obtain ⟨oL,_,_,hoL,_⟩:=id hn
  refine h _ ⟨I.ok,I.os,I.bare,⟨fun b o e n hb hx=>?_,fun b o e n hb hx=>?_,I.base.free,fun b o e hx=>?_,I.base.tups,I.base.frzs,I.base.tbls⟩,⟨_,hn',fun j y v' e1 e2 e3=>?_⟩,fun y c e=>?_,I.free,I.freeC,fun p hp=>?_,tracked ⟨oL,hoL,I.free⟩ hs,by simpa using I.len⟩ ⟨_,hs,.inl rfl⟩
  ·exact (hs.2 b (Nat.ne_of_lt (Nat.lt_of_lt_of_le (Heap.lt_size e) I.ok.above))).trans (I.base.keep b o e n hb hx)
  ·obtain ⟨sl,e1⟩:=I.base.slot b o e n hb hx
   exact ⟨sl,(hs.2 b (Nat.ne_of_lt (Nat.lt_of_lt_of_le (Heap.lt_size e) I.ok.above))).trans e1⟩
  ·obtain ⟨o',e1⟩:=I.base.there b o e hx
   exact ⟨o',(hs.2 b (Nat.ne_of_lt (Nat.lt_of_lt_of_le (Heap.lt_size e) I.ok.above))).trans e1⟩
  ·by_cases hj:j=i
   ·subst hj
    rw [hi] at e1;cases e1
    rw [List.getElem?_set_self hiσ] at e2
    cases e2
    exact ⟨u,r,.inl ⟨hk,by simp⟩⟩
   ·rw [List.getElem?_set_ne (Ne.symm hj)] at e2
    obtain ⟨u',r',q⟩:=hl j y v' e1 e2 e3
    refine ⟨u',r',?_⟩
    rcases q with ⟨k,e⟩ | ⟨k,c,e,z⟩
    ·refine .inl ⟨k,?_⟩
     have:y≠x:=fun e=>hj (zhB hN e1 (e ▸ hi))
     simp [this,e]
    ·exact .inr ⟨k,c,e,z.sameBut hs (cne y c e)⟩
  ·obtain ⟨w',z⟩:=I.cell y c e
   exact ⟨w',z.sameBut hs (cne y c e)⟩
  ·obtain ⟨e,n,ne,nf,d⟩:=I.pin p hp
   exact ⟨(hs.2 p.1 ne).trans e,n,ne,nf,d⟩
 ·have hfn:X.fn x=true:=by
   rcases hf with z | z
   ·exact z
   ·rw [z] at hk;cases hk
  obtain ⟨c,hc⟩:=I.ok.has x (.inl hk)
  obtain ⟨w',z⟩:=I.cell x c hc
  refine wpAny_storeName_cell I.ok.kind hk hc z (fun h' hc' hs=>?_)
  obtain ⟨oc,hoc,hocd⟩:=id z
  refine h { s with heap:=h' } ⟨I.ok,I.os,I.bare,⟨fun b o e n hb hx=>?_,fun b o e n hb hx=>?_,I.base.free,fun b o e hx=>?_,I.base.tups,I.base.frzs,I.base.tbls⟩,⟨m,hn.sameBut hs (Ne.symm (cne x c hc)),fun j y v' e1 e2 e3=>?_⟩,fun y c' e=>?_,I.free,I.freeC,fun p hp=>?_,tracked ⟨oc,hoc,I.freeC x c hc⟩ hs,by simpa using I.len⟩ ⟨c,hs,.inr hc⟩
  ·exact (hs.2 b (Nat.ne_of_lt (Nat.lt_of_lt_of_le (Heap.lt_size e) (I.ok.cab x c hfn hc)))).trans (I.base.keep b o e n hb hx)
  ·obtain ⟨sl,e1⟩:=I.base.slot b o e n hb hx
   exact ⟨sl,(hs.2 b (Nat.ne_of_lt (Nat.lt_of_lt_of_le (Heap.lt_size e) (I.ok.cab x c hfn hc)))).trans e1⟩
  ·obtain ⟨o',e1⟩:=I.base.there b o e hx
   exact ⟨o',(hs.2 b (Nat.ne_of_lt (Nat.lt_of_lt_of_le (Heap.lt_size e) (I.ok.cab x c hfn hc)))).trans e1⟩
  ·by_cases hj:j=i
   ·subst hj
    rw [hi] at e1;cases e1
    rw [List.getElem?_set_self hiσ] at e2
    cases e2
    exact ⟨u,r,.inr ⟨.inl hk,c,hc,hc'⟩⟩
   ·rw [List.getElem?_set_ne (Ne.symm hj)] at e2
    obtain ⟨u',r',q⟩:=hl j y v' e1 e2 e3
    refine ⟨u',r',?_⟩
    rcases q with q | ⟨k,c',e,z'⟩
    ·exact .inl q
    ·refine .inr ⟨k,c',e,z'.sameBut hs ?_⟩
     rintro rfl
     exact hj (zhB hN e1 (I.ok.inj _ _ _ e hc ▸ hi))
  ·by_cases hcc:c'=c
   ·subst hcc;exact ⟨_,hc'⟩
   ·obtain ⟨w2,z2⟩:=I.cell y c' e
    exact ⟨w2,z2.sameBut hs hcc⟩
  ·obtain ⟨e,n,ne,nf,d⟩:=I.pin p hp
   refine ⟨(hs.2 p.1 ?_).trans e,n,ne,nf,d⟩
   intro q
   rw [q,hoc] at e
   have q':oc=p.2:=Option.some.inj e
   exact d w' (by rw [<- q'];exact hocd)
theorem zft {M:Model}{A:Around}{E:Value->Shared->Prop}{i:Nat}{x:Str}{v:V}{u:Value}{Q:Unit->Shared->Prop}(I:Inv X pins σ H s)(hN:X.N.Nodup)(hi:X.N[i]?=some x)(hx:Loc X.env.scope x)(r:RelV v u)
  (h:∀ s',Inv X pins (σ.set i (some v)) H s'->Q () s') (hf:X.fn x=true\/X.env.scope.names.lookup x=some .local:=by first | exact .inl rfl | exact .inr rfl | assumption) : wpAny M A (storeName X.env x u) Q E s :=
 zjE I hN hi hx r (fun s' I' _=>h s' I') hf
theorem Inv.call' {s':Shared}{ch:List Addr}(I:Inv X pins σ H s)(ho:s'.os=s.os)(u:Un (frs X.stack) ch H H' s.heap s'.heap)(hok:HOk X.prog X.w H' s'.heap)(hg:AllBare s'.gens)
  (hch:∀ b∈ch,(b∈X.ex\/X.s₀.heap.objs.size<=b)/\b≠X.env.locals/\(∀ x c,X.env.cells.lookup x=some c->c≠b)/\∀ p∈X.pn++pins,p.1≠b) : Inv X pins σ H' s':=by
 obtain ⟨h',g',d',t',o'⟩:=s'
 have e:o'=s.os:=ho
 subst e
 exact I.call (g':=g') (t':=t') (d':=d') u hok hg hch
end
abbrev XK:=Value->Option Addr->Hp->Prop
abbrev St:=List (Option V)
abbrev VK:=V->Hp->Prop
abbrev TE:=St->Hp->VK->Prop
abbrev TT:=St->Hp->(Bool->Hp->Prop)->Prop
abbrev TA:=St->Hp->(List V->Hp->Prop)->Prop
structure Ends where
 nx:St->Hp->Prop
 rt:VK
 bk:St->Hp->Prop:=fun _ _=>False
 ct:St->Hp->Prop:=fun _ _=>False
abbrev TS:=Ends->St->Hp->Prop
def EP (X:Cx)(pins:List (Addr×Obj))(σ:St)(Q:VK)(u:Value)(s':Shared) : Prop:=∃ v H',Inv X pins σ H' s'/\RelV v u/\Q v H'
def TP (X:Cx)(pins:List (Addr×Obj))(σ:St)(Q:Bool->Hp->Prop)(b:Bool)(s':Shared) : Prop:=∃ H',Inv X pins σ H' s'/\Q b H'
def AP (X:Cx)(pins:List (Addr×Obj))(σ:St)(Q:List V->Hp->Prop)(us:List Value)(s':Shared) : Prop:=∃ vs H',Inv X pins σ H' s'/\Vals vs us/\Q vs H'
def SP (X:Cx)(pins:List (Addr×Obj))(D:Ends)(f:Flow)(s':Shared) : Prop :=
 match f with
 | .next=>∃ σ' H',Inv X pins σ' H' s'/\D.nx σ' H'
 | .brk=>∃ σ' H',Inv X pins σ' H' s'/\D.bk σ' H'
 | .cont=>∃ σ' H',Inv X pins σ' H' s'/\D.ct σ' H'
 | .ret u=>∃ v σ' H',Inv X pins σ' H' s'/\RelV v u/\D.rt v H'
def PE (X:Cx)(e:Expr)(t:TE) : Prop :=
 ∀ (pins:List (Addr×Obj)) (s:Shared) (σ:St) (H:Hp) (Q:VK),Inv X pins σ H s->t σ H Q->wpAny (model X.prog X.w) X.A (eval e X.env) (EP X pins σ Q) X.xe s
def PT (X:Cx)(e:Expr)(t:TT) : Prop :=
 ∀ (pins:List (Addr×Obj)) (s:Shared) (σ:St) (H:Hp) (Q:Bool->Hp->Prop),Inv X pins σ H s->t σ H Q->wpAny (model X.prog X.w) X.A (isTrue e X.env (eval e X.env)) (TP X pins σ Q) X.xe s
def PW (X:Cx)(e:Expr)(t:TT) : Prop :=
 ∀ (whole:Sem Value) (pins:List (Addr×Obj)) (s:Shared) (σ:St) (H:Hp) (Q:Bool->Hp->Prop),Inv X pins σ H s->t σ H Q->wpAny (model X.prog X.w) X.A (isTrue e X.env whole) (TP X pins σ Q) X.xe s
theorem PW.pt {X:Cx}{e:Expr}{t:TT}(h:PW X e t) : PT X e t:=h _
def PA (X:Cx)(es:List Expr)(t:TA) : Prop :=
 ∀ (pos:Pos) (pins:List (Addr×Obj)) (s:Shared) (σ:St) (H:Hp) (Q:List V->Hp->Prop),Inv X pins σ H s->t σ H Q->wpAny (model X.prog X.w) X.A (spliced (backTo pos (starEach es X.env))) (AP X pins σ Q) X.xe s
def PS (X:Cx)(st:Stmt)(t:TS) : Prop :=
 ∀ (pins:List (Addr×Obj)) (s:Shared) (σ:St) (H:Hp) (D:Ends),Inv X pins σ H s->t D σ H->wpAny (model X.prog X.w) X.A (exec st X.env) (SP X pins D) X.xe s
def PSs (X:Cx)(st:List Stmt)(t:TS) : Prop :=
 ∀ (pins:List (Addr×Obj)) (s:Shared) (σ:St) (H:Hp) (D:Ends),Inv X pins σ H s->t D σ H->wpAny (model X.prog X.w) X.A (execs st X.env) (SP X pins D) X.xe s
theorem thn {α:Type}{t:Sem α}{Q Q':α->Shared->Prop}{M:Model}{A:Around}{E:Value->Shared->Prop}{s:Shared}(h:wpAny M A t Q E s)(hQ:∀ a s,Q a s->Q' a s) : wpAny M A t Q' E s:=wpAny_mono h hQ fun _ _ x=>x
section
variable {X:Cx}
theorem bin {a b:Expr}{ta tb:TE}(ha:PE X a ta)(hb:PE X b tb){pins:List (Addr×Obj)}{s:Shared}{σ:St}{H:Hp}{R:V->V->Hp->Prop}(I:Inv X pins σ H s)(h:ta σ H fun x H1=>tb σ H1 fun y H2=>R x y H2)
  {α:Type} {Q:α->Shared->Prop} {f:Value->Value->Sem α}
  (hf:∀ v u s2 x y H2,Inv X pins σ H2 s2->RelV x v->RelV y u->R x y H2->wpAny (model X.prog X.w) X.A (f v u) Q X.xe s2) :
  wpAny (model X.prog X.w) X.A (eval a X.env) (fun v s₁=>wpAny (model X.prog X.w) X.A (eval b X.env) (fun u s₂=>wpAny (model X.prog X.w) X.A (f v u) Q X.xe s₂) X.xe s₁) X.xe s:=by
 refine thn (ha pins s σ H _ I h) fun v s1 ⟨x,H1,I1,r1,q1⟩=>?_
 refine thn (hb pins s1 σ H1 _ I1 q1) fun u s2 ⟨y,H2,I2,r2,q2⟩=>?_
 exact hf v u s2 x y H2 I2 r1 r2 q2
def tVar (i:Nat) : TE:=fun σ H Q=>∃ v,σ[i]?=some (some v)/\Q v H
def tC (v:V) : TE:=fun _ H Q=>Q v H
theorem zmL {i:Nat}{x:Str}{pos:Pos}(hN:X.N[i]?=some x)(hv:Vis X.env.scope x)(hd:(x == ("__debug__" : Str))=false:=by decide)(hcd:(x == ("__classdict__" : Str))=false:=by decide) : PE X (.Name x pos) (tVar i):=by
 intro pins s σ H Q I h
 obtain ⟨v,e,h⟩:=h
 obtain ⟨m,hn,hl⟩:=I.loc
 obtain ⟨u,r,l⟩:=hl i x v hN e hv
 have fin:EP X pins σ Q u s:=⟨v,H,I,r,h⟩
 rcases l with ⟨hk,hm⟩ | ⟨hk,c,hc,hcell⟩
 ·exact wpAny_Name (wpAny_loadName_local I.ok.kind hk hn hm fin) hd
 ·rcases hk with hk | hk
  ·exact wpAny_Name (wpAny_loadName_cell I.ok.kind hk hc hcell fin) hd
  ·exact wpAny_Name (wpAny_loadName_free I.ok.kind hk hc hcell fin hcd) hd
theorem znb {i j pos} : PE X (.Constant (.int i) j pos) (tC (.int i)):=fun _ _ _ H _ I h=>wpAny_Constant_int ⟨.int i,H,I.tok _,⟨_,rfl⟩,h⟩
theorem zov {b j pos} : PE X (.Constant (.bool b) j pos) (tC (.bl b)):=fun _ _ _ H _ I h=>Constant_bool ⟨.bl b,H,I,rfl,h⟩
theorem znj {j pos} : PE X (.Constant .none j pos) (tC .non):=fun _ _ _ H _ I h=>Constant_none ⟨.non,H,I,rfl,h⟩
theorem zns {x j pos} : PE X (.Constant (.str x) j pos) (tC (.str x)):=fun _ _ _ H _ I h=>Calls.Constant_str ⟨.str x,H,I.tok _,⟨_,rfl⟩,h⟩
def Gl (X:Cx)(x:Str) : Prop:=X.env.kindOf x=some .globalImplicit
theorem zlH {E:Value->Shared->Prop}{pins:List (Addr×Obj)}{s:Shared}{σ:St}{H:Hp}{x:Str}{u:Value}{pos:Pos}{Q:Value->Shared->Prop}(I:Inv X pins σ H s)(hg:Gl X x)(hm:X.mg x=some u)(h:Q u s)
  (hd:(x == ("__debug__" : Str))=false:=by decide) : wpAny (model X.prog X.w) X.A (eval (.Name x pos) X.env) Q E s :=
 Calls.Name_function_global I.ok.kind hg (Calls.loadGlobal_global (by rw [I.ok.glob];exact I.mod.glob.keeps I.bk) hm h) hd
theorem zhZ {E:Value->Shared->Prop}{pins:List (Addr×Obj)}{s:Shared}{σ:St}{H:Hp}{x:Str}{u:Value}{pos:Pos}{Q:Value->Shared->Prop}(I:Inv X pins σ H s)(hg:Gl X x)(hm:X.mg x=none)(hv:bootBuiltins x=some u)(h:Q u s)
  (hn:x ≠ "__name__" := by decide) (hd:(x == ("__debug__" : Str))=false:=by decide) : wpAny (model X.prog X.w) X.A (eval (.Name x pos) X.env) Q E s:=by
 obtain ⟨mb,h1,h2⟩:=I.mod.blt
 exact Calls.Name_function_global I.ok.kind hg (Calls.loadGlobal_builtin (by rw [I.ok.glob];exact I.mod.glob.keeps I.bk) hm (by rw [I.ok.blt];exact h1.keeps I.bk) ((h2 x hn).trans hv) h) hd
theorem zmt {x:Str}{v:V}{u:Value}{pos:Pos}(hg:Gl X x)(hm:X.mg x=none)(hv:bootBuiltins x=some u)(r:RelV v u)(hn:x ≠ "__name__" := by decide)(hd:(x == ("__debug__" : Str))=false:=by decide) : PE X (.Name x pos) (tC v) :=
 fun _ _ _ H _ I h=>zhZ I hg hm hv ⟨v,H,I,r,h⟩ hn hd
variable {a b:Expr}{ta tb:TE}{pos:Pos}
def PC (X:Cx)(op:CmpOp)(a b:Expr)(t:TE) : Prop :=
 ∀ (pins:List (Addr×Obj)) (s:Shared) (σ:St) (H:Hp) (Q:VK),Inv X pins σ H s->t σ H Q ->
  wpAny (model X.prog X.w) X.A (eval a X.env) (fun v s₁=>wpAny (model X.prog X.w) X.A (eval b X.env) (fun u s₂=>wpAny (model X.prog X.w) X.A (compareOp op v u) (EP X pins σ Q) X.xe s₂) X.xe s₁) X.xe s
def tB (t:TE) : TT:=fun σ H Q=>t σ H fun x H1=>∃ c,x=.bl c/\Q c H1
theorem znv {op:CmpOp}{t:TE}(h:PC X op a b t)(h1:behindInMarks op b=false:=by first | exact nobehind _ (by decide) (by decide) | rfl) : PT X (.Compare a [op] [b] pos) (tB t):=by
 intro pins s σ H Q I hw
 refine wpAny_isTrue_Compare1 (thn (h pins s σ H _ I hw) fun v s1 h1=>thn h1 fun u s2 h2=>thn h2 fun c s3 ⟨x,H1,I1,r1,q1⟩=>?_) h1
 obtain ⟨d,rfl,q⟩:=q1
 cases r1
 exact wpAny_truthy_bool ⟨H1,I1,q⟩
theorem zne {e:Expr}{t:TE}(h:PE X e t)(he:∀ whole,isTrue e X.env whole=(do let v <- whole;standAt e.pos;holding [v] (truthy v)):=by intro _;rfl) : PT X e (tB t):=by
 intro pins s σ H Q I hw
 refine isTrue_plain (thn (h pins s σ H _ I hw) fun v s1 ⟨x,H1,I1,r1,q1⟩=>?_) (he _)
 obtain ⟨d,rfl,q⟩:=q1
 cases r1
 exact wpAny_truthy_bool ⟨H1,I1,q⟩
variable {tA tB':TT}{rest:List Expr}
def tOr (t u:TT) : TT:=fun σ H Q=>t σ H fun c H1=>if c=true then Q true H1 else u σ H1 Q
def tNot (t:TT) : TT:=fun σ H Q=>t σ H fun c H1=>Q (!c) H1
theorem zmY (ha:PT X a tA) : PW X (.BoolOp .Or [a] pos) tA:=by
 intro wh pins s σ H Q I h
 refine isTrue_or (thn (ha pins s σ H Q I h) fun c s1 e=>?_)
 cases c with
 | false=>exact isTrue_or_nil e
 | true=>exact e
theorem zol (ha:PT X a tA)(hb:PW X (.BoolOp .Or (b::rest) pos) tB') : PW X (.BoolOp .Or (a::b::rest) pos) (tOr tA tB'):=by
 intro wh pins s σ H Q I h
 refine isTrue_or (thn (ha pins s σ H _ I h) fun c s1 ⟨H1,I1,q1⟩=>?_)
 cases c with
 | true=>exact ⟨H1,I1,q1⟩
 | false=>exact hb wh pins s1 σ H1 Q I1 q1
theorem znL (ha:PT X a tA) : PT X (.UnaryOp .Not a pos) (tNot tA):=by
 intro pins s σ H Q I h
 exact isTrue_not (ha pins s σ H (fun c H1=>Q (!c) H1) I h)
def znm (ta tb:TE) : TE:=fun σ H Q=>ta σ H fun x H1=>∃ c,x=.bl c/\if c=true then tb σ H1 Q else Q (.bl false) H1
def tOrV (ta tb:TE) : TE:=fun σ H Q=>ta σ H fun x H1=>∃ c,x=.bl c/\if c=true then Q (.bl true) H1 else tb σ H1 Q
def znR (ta:TE) : TE:=fun σ H Q=>ta σ H fun x H1=>∃ c,x=.bl c/\Q (.bl (!c)) H1
theorem znV {op}{t:TE}(h:PE X a t) : PE X (.BoolOp op [a] pos) t:=fun pins s σ H Q I hw=>BoolOp_one (h pins s σ H Q I hw)
theorem znH (ha:PE X a ta)(hb:PE X (.BoolOp .And (b::rest) pos) tb) : PE X (.BoolOp .And (a::b::rest) pos) (znm ta tb):=by
 intro pins s σ H Q I h
 refine BoolOp_and (thn (ha pins s σ H _ I h) fun v s1 ⟨x,H1,I1,r1,q1⟩=>?_)
 obtain ⟨c,rfl,q1⟩:=q1
 cases r1
 refine wpAny_truthy_bool ?_
 cases c with
 | true=>exact hb pins s1 σ H1 Q I1 q1
 | false=>exact ⟨.bl false,H1,I1,rfl,q1⟩
theorem zod (ha:PE X a ta)(hb:PE X (.BoolOp .Or (b::rest) pos) tb) : PE X (.BoolOp .Or (a::b::rest) pos) (tOrV ta tb):=by
 intro pins s σ H Q I h
 refine BoolOp_or (thn (ha pins s σ H _ I h) fun v s1 ⟨x,H1,I1,r1,q1⟩=>?_)
 obtain ⟨c,rfl,q1⟩:=q1
 cases r1
 refine wpAny_truthy_bool ?_
 cases c with
 | false=>exact hb pins s1 σ H1 Q I1 q1
 | true=>exact ⟨.bl true,H1,I1,rfl,q1⟩
theorem zmR (ha:PE X a ta) : PE X (.UnaryOp .Not a pos) (znR ta):=by
 intro pins s σ H Q I h
 refine UnaryOp_ (thn (ha pins s σ H _ I h) fun v s1 ⟨x,H1,I1,r1,q1⟩=>?_)
 obtain ⟨c,rfl,q1⟩:=q1
 cases r1
 exact not_of (wpAny_truthy_bool ⟨.bl (!c),H1,I1,rfl,q1⟩)
end
def SqL (K:W.Frag)(H:Hp)(a:Addr)(xs:List V) : Prop :=
 Rd H a (.lst xs) \/
  ∃ (o:Obj) (its:Array Value) (n:Nat),K.lookup a=some o/\o.cls=.type "list" /\ o.dict=none/\o.data=.seq its n/\its.size<=sizeLine/\Vals xs its.toList
def SqT (K:W.Frag)(H:Hp)(a:Addr)(xs:List V) : Prop :=
 Rd H a (.tup xs) \/
  ∃ (o:Obj) (its:Array Value) (n:Nat),K.lookup a=some o/\o.cls=.type "tuple" /\ o.data=.seq its n/\its.size<=sizeLine/\Vals xs its.toList
def absV:Value->Option V
 | .none=>some .non
 | .bool b=>some (.bl b)
 | .int i _=>some (.int i)
 | .str x _=>some (.str x)
 | .bytes b _=>some (.byt b)
 | .float b _=>some (.flt b)
 | .ref a=>some (.ref a)
 | .type n=>some (.ty n)
 | _=>none
theorem RelV.abs {x:V}{u:Value}(r:RelV x u) : absV u=some x:=by
 cases x with
 | non=>cases r;rfl
 | bl _=>cases r;rfl
 | int _=>obtain ⟨t,rfl⟩:=r;rfl
 | str _=>obtain ⟨t,rfl⟩:=r;rfl
 | byt _=>obtain ⟨t,rfl⟩:=r;rfl
 | flt _=>obtain ⟨t,rfl⟩:=r;rfl
 | ref _=>cases r;rfl
 | ty _=>cases r;rfl
theorem RelV.inj {x y:V}{u:Value}(r:RelV x u)(q:RelV y u) : x=y:=Option.some.inj (r.abs.symm.trans q.abs)
theorem Vals.inj:∀ {xs ys:List V} {us:List Value},Vals xs us->Vals ys us->xs=ys
 | _,_,_,.nil,.nil=>rfl
 | _,_,_,.cons r t,.cons r' t'=>by rw [r.inj r',Vals.inj t t']
section
variable {X:Cx}{pins:List (Addr×Obj)}{σ:St}{H:Hp}{s:Shared}{a:Addr}{xs ys:List V}
theorem SqL.of {K:W.Frag}(h:H a=some (.lst xs)) : SqL K H a xs:=.inl (.inl h)
theorem SqT.of {K:W.Frag}(h:H a=some (.tup xs)) : SqT K H a xs:=.inl (.inl h)
theorem Inv.list (I:Inv X pins σ H s)(h:SqL X.K H a xs) : ∃ its:List Value,Vals xs its/\PlainL s.heap a its.toArray/\xs.length<=sizeLine:=by
 rcases h with h | ⟨o,its,n,hk,hc,hd,hs,hz,r⟩
 ·obtain ⟨z,its,n,r,e⟩:=h.ok I.hok
  exact ⟨its,r,⟨_,n,e,rfl,rfl,rfl⟩,z⟩
 ·refine ⟨its.toList,r,⟨o,n,I.kIn a o hk,hc,hd,by simpa using hs⟩,?_⟩
  have e:=r.length
  simp only [Array.length_toList] at e
  omega
theorem Inv.tuple (I:Inv X pins σ H s)(h:SqT X.K H a xs) : ∃ its:List Value,Vals xs its/\IsTup s.heap a its.toArray/\xs.length<=sizeLine:=by
 rcases h with h | ⟨o,its,n,hk,hc,hs,hz,r⟩
 ·obtain ⟨z,its,r,p⟩:=h.ok I.hok
  exact ⟨its,r,p,z⟩
 ·refine ⟨its.toList,r,⟨o,I.kIn a o hk,hc,n,by simpa using hs⟩,?_⟩
  have e:=r.length
  simp only [Array.length_toList] at e
  omega
theorem Inv.list_inj (I:Inv X pins σ H s)(h:SqL X.K H a xs)(h':SqL X.K H a ys) : xs=ys:=by
 obtain ⟨its,r,⟨o,n,e,_,_,d⟩,_⟩:=I.list h
 obtain ⟨its',r',⟨o',n',e',_,_,d'⟩,_⟩:=I.list h'
 rw [e] at e';cases e'
 rw [d] at d'
 injection d' with d1 _
 have:its=its':=by simpa using congrArg Array.toList d1
 subst this
 exact r.inj r'
theorem Inv.tuple_inj (I:Inv X pins σ H s)(h:SqT X.K H a xs)(h':SqT X.K H a ys) : xs=ys:=by
 obtain ⟨its,r,⟨o,e,_,n,d⟩,_⟩:=I.tuple h
 obtain ⟨its',r',⟨o',e',_,n',d'⟩,_⟩:=I.tuple h'
 rw [e] at e';cases e'
 rw [d] at d'
 injection d' with d1 _
 have:its=its':=by simpa using congrArg Array.toList d1
 subst this
 exact r.inj r'
end
abbrev Cx.wish (X:Cx)(E:Value->Shared->Prop) : Cx:={ X with xe:=E }
abbrev Cx.nox (X:Cx) : Cx:=X.wish fun _ _=>False
theorem Cx.Ok.wish {X:Cx}(ok:X.Ok)(E:Value->Shared->Prop) : (X.wish E).Ok :=
 ⟨ok.mod,ok.kind,ok.glob,ok.blt,ok.above,ok.inj,ok.has,ok.cab,ok.hd,ok.frames,ok.stk,ok.exf,ok.bs,ok.bsz,ok.noex,ok.exfs,ok.funs,ok.frf⟩
theorem Cx.Ok.unwish {X:Cx}{E:Value->Shared->Prop}(ok:(X.wish E).Ok) : X.Ok :=
 ⟨ok.mod,ok.kind,ok.glob,ok.blt,ok.above,ok.inj,ok.has,ok.cab,ok.hd,ok.frames,ok.stk,ok.exf,ok.bs,ok.bsz,ok.noex,ok.exfs,ok.funs,ok.frf⟩
section
variable {X:Cx}{pins:List (Addr×Obj)}{σ:St}{H:Hp}{s:Shared}{E:Value->Shared->Prop}
theorem Inv.wish (I:Inv X pins σ H s)(E:Value->Shared->Prop) : Inv (X.wish E) pins σ H s:=⟨I.ok.wish E,I.os,I.bare,I.base,I.loc,I.cell,I.free,I.freeC,I.pin,I.hok,I.len⟩
theorem Inv.unwish (I:Inv (X.wish E) pins σ H s) : Inv X pins σ H s:=⟨I.ok.unwish,I.os,I.bare,I.base,I.loc,I.cell,I.free,I.freeC,I.pin,I.hok,I.len⟩
theorem SP.unwish {D:Ends}{f:Flow}{s':Shared}(h:SP (X.wish E) pins D f s') : SP X pins D f s':=by
 cases f with
 | next=>obtain ⟨σ',H',I,q⟩:=h;exact ⟨σ',H',I.unwish,q⟩
 | brk=>obtain ⟨σ',H',I,q⟩:=h;exact ⟨σ',H',I.unwish,q⟩
 | cont=>obtain ⟨σ',H',I,q⟩:=h;exact ⟨σ',H',I.unwish,q⟩
 | ret u=>obtain ⟨v,σ',H',I,r,q⟩:=h;exact ⟨v,σ',H',I.unwish,r,q⟩
theorem PSs.nox {st:List Stmt}{t:TS}(h:PSs X.nox st t) : PSs X st t:=fun pins s σ H D I hw =>
 wpAny_mono (h pins s σ H D (I.wish _) hw) (fun _ _ q=>q.unwish) fun _ _ z=>False.elim z
end
section
variable {X:Cx}{st:Stmt}{rest:List Stmt}{t u:TS}{e:Expr}{te:TE}{pos:Pos}
def zgw:TS:=fun D σ H=>D.nx σ H
def tSeq (t u:TS) : TS:=fun D σ H=>t { D with nx:=u D } σ H
theorem zmu:PSs X [] zgw:=fun _ _ σ H _ I h=>wpAny_execs_nil ⟨σ,H,I,h⟩
theorem zkm (h1:PS X st t)(h2:PSs X rest u) : PSs X (st::rest) (tSeq t u):=by
 intro pins s σ H D I h
 refine wpAny_execs_cons (thn (h1 pins s σ H { D with nx:=u D } I h) fun f s1 q=>?_)
 cases f with
 | next =>
  obtain ⟨σ',H',I',q⟩:=q
  exact h2 pins s1 σ' H' D I' q
 | ret v=>exact q
 | brk=>exact q
 | cont=>exact q
theorem zlT (h1:PS X st t) : PSs X [st] t:=by
 intro pins s σ H D I h
 refine wpAny_execs_cons (thn (h1 pins s σ H D I h) fun f s1 q=>?_)
 cases f with
 | next=>exact wpAny_execs_nil q
 | ret v=>exact q
 | brk=>exact q
 | cont=>exact q
theorem Inv.quiet {pins:List (Addr×Obj)}{σ:St}{H:Hp}{s:Shared}(I:Inv X pins σ H s) : interactive X.env=false:=by simp [interactive,I.ok.kind]
def zgC (te:TE) : TS:=fun D σ H=>te σ H fun _ H1=>D.nx σ H1
theorem zgT (he:PE X e te)(hs:swapsWith e none pos.line X.env=pure false:=by rfl) : PS X (.Expr e pos) (zgC te):=by
 intro pins s σ H D I h
 exact wpAny_Expr_any (thn (he pins s σ H _ I h) fun v s1 ⟨x,H1,I1,r1,q1⟩=>⟨σ,H1,I1,q1⟩) I.quiet hs
def tRet (te:TE) : TS:=fun D σ H=>te σ H D.rt
theorem znt (he:PE X e te) : PS X (.Return (some e) pos) (tRet te):=by
 intro pins s σ H D I h
 exact wpAny_Return_some (thn (he pins s σ H _ I h) fun v s1 ⟨x,H1,I1,r1,q1⟩=>⟨x,σ,H1,I1,r1,q1⟩)
def tIfS (c:TT)(t u:TS) : TS:=fun D σ H=>c σ H fun b H1=>if b=true then t D σ H1 else u D σ H1
theorem zn8 {c:Expr}{a b:List Stmt}{tc:TT}(hc:PT X c tc)(ha:PSs X a t)(hb:PSs X b u) : PS X (.If c a b pos) (tIfS tc t u):=by
 intro pins s σ H D I h
 refine wpAny_If (thn (hc pins s σ H _ I h) fun d s1 ⟨H1,I1,q1⟩=>?_)
 cases d with
 | true=>exact ha pins s1 σ H1 D I1 q1
 | false=>exact hb pins s1 σ H1 D I1 q1
end
abbrev TG:=V->St->Hp->(St->Hp->Prop)->Prop
abbrev TGs:=List V->St->Hp->(St->Hp->Prop)->Prop
def PG (X:Cx)(target:Expr)(t:TG) : Prop :=
 ∀ (pins:List (Addr×Obj)) (s:Shared) (σ:St) (H:Hp) (v:V) (u:Value) (Q:St->Hp->Prop),Inv X pins σ H s->RelV v u->t v σ H Q ->
  wpAny (model X.prog X.w) X.A (assign target X.env u) (fun _ s'=>∃ σ' H',Inv X pins σ' H' s'/\Q σ' H') X.xe s
def PGs (X:Cx)(ts:List Expr)(t:TGs) : Prop :=
 ∀ (pins:List (Addr×Obj)) (s:Shared) (σ:St) (H:Hp) (vs:List V) (us:List Value) (Q:St->Hp->Prop),Inv X pins σ H s->Vals vs us->t vs σ H Q ->
  wpAny (model X.prog X.w) X.A (assignInOrder ((assignEach ts X.env).map (·.2)) us) (fun _ s'=>∃ σ' H',Inv X pins σ' H' s'/\Q σ' H') X.xe s
abbrev TSet:=V->V->V->Hp->(Hp->Prop)->Prop
def PSet (X:Cx)(t:TSet) : Prop :=
 ∀ (pins:List (Addr×Obj)) (s:Shared) (σ:St) (H:Hp) (o i v:V) (ov iv u:Value) (Q:Hp->Prop),Inv X pins σ H s->RelV o ov->RelV i iv->RelV v u->t o i v H Q ->
  wpAny (model X.prog X.w) X.A (setItem ov iv u) (fun _ s'=>∃ H',Inv X pins σ H' s'/\Q H') X.xe s
section
variable {X:Cx}{pos:Pos}
def zas (i:Nat) : TG:=fun v σ H Q=>Q (σ.set i (some v)) H
theorem zl3 {i:Nat}{x:Str}(hN:X.N.Nodup)(hi:X.N[i]?=some x)(hx:Loc X.env.scope x)(hf:X.fn x=true\/X.env.scope.names.lookup x=some .local:=by first | exact .inl rfl | exact .inr rfl | assumption) : PG X (.Name x pos) (zas i):=by
 intro pins s σ H v u Q I r h
 exact wpAny_assign_Name (zft I hN hi hx r (fun s' I'=>⟨_,H,I',h⟩) hf)
def gNil:TGs:=fun vs σ H Q=>vs=[]/\Q σ H
def zkY (t:TG)(u:TGs) : TGs:=fun vs σ H Q=>∃ v r,vs=v::r/\t v σ H fun σ' H'=>u r σ' H' Q
theorem zlJ:PGs X [] gNil:=by
 intro pins s σ H vs us Q I r h
 obtain ⟨e,h⟩:=h
 subst e
 cases r
 exact assignInOrder_nil ⟨σ,H,I,h⟩
theorem zkK {e:Expr}{es:List Expr}{t:TG}{u:TGs}(h1:PG X e t)(h2:PGs X es u)
  (hs:(assignEach (e::es) X.env).map (·.2)=assign e X.env::(assignEach es X.env).map (·.2):=by rfl) : PGs X (e::es) (zkY t u):=by
 intro pins s σ H vs us Q I r h
 obtain ⟨v,vr,e1,h⟩:=h
 subst e1
 cases r with
 | cons r rr =>
  rw [hs]
  refine assignInOrder_cons (thn (h1 pins s σ H _ _ _ I r h) fun _ s1 ⟨σ1,H1,I1,q1⟩=>?_)
  exact h2 pins s1 σ1 H1 _ _ Q I1 rr q1
def gTup (K:W.Frag)(n:Nat)(t:TGs) : TG:=fun v σ H Q=>∃ a xs,v=.ref a/\SqT K H a xs/\xs.length=n/\t xs σ H Q
theorem zmQ {es:List Expr}{k:Nat}{t:TGs}{n:Nat}(hc:X.calm=true)(h:PGs X es t)
  (hn:(assignEach es X.env).length=n:=by rfl) (hst:(assignEach es X.env).findIdx? (·.1)=none:=by rfl) : PG X (.Tuple es k pos) (gTup X.K n t):=by
 intro pins s σ H v u Q I r hw
 obtain ⟨a,xs,e1,hq,hl,hw⟩:=hw
 subst e1
 cases r
 obtain ⟨its,rv,ht,hz⟩:=I.tuple hq
 refine assign_Tuple_tuple (I.ok.hd hc) ht (by simp [hn,<- hl,rv.length]) hst fun h' hx=>?_
 have I1:Inv X pins σ H { s with heap:=h' }:=I.kept (t':=s.toks) fun b o e=>hx b o (Nat.ne_of_lt (Heap.lt_size e)) e
 exact h pins _ σ H xs _ Q I1 (by simpa using rv) hw
def tAsg (te:TE)(g:TG) : TS:=fun D σ H=>te σ H fun x H1=>g x σ H1 D.nx
theorem znQ {tg e:Expr}{te:TE}{g:TG}(he:PE X e te)(hg:PG X tg g)(hs:swapsWithSole [tg] e pos.line X.env=pure false:=by rfl)(hw:swappedStores [tg] e X.env=pure none:=by rfl)
  (h1:(assignEach [tg] X.env).map (·.2)=[assign tg X.env]:=by rfl) : PS X (.Assign [tg] e pos) (tAsg te g):=by
 intro pins s σ H D I h
 refine wpAny_Assign_stores (thn (he pins s σ H _ I h) fun v s1 ⟨x,H1,I1,r1,q1⟩=>?_) hs hw
 rw [h1]
 exact thn (hg pins s1 σ H1 x v _ I1 r1 q1) fun _ s2 q=>q
theorem zjw {i:Nat}{x:Str}{e:Expr}{te:TE}{pos':Pos}(hN:X.N.Nodup)(hi:X.N[i]?=some x)(hx:Loc X.env.scope x)(he:PE X e te)(hs:swapsWith e (some (.Name x pos')) pos.line X.env=pure false:=by rfl)(hf:X.fn x=true\/X.env.scope.names.lookup x=some .local:=by first | exact .inl rfl | exact .inr rfl | assumption) :
  PS X (.Assign [.Name x pos'] e pos) (tAsg te (zas i)):=by
 intro pins s σ H D I h
 refine wpAny_Assign_Name (thn (he pins s σ H _ I h) fun v s1 ⟨y,H1,I1,r1,q1⟩=>?_) hs
 exact zft I1 hN hi hx r1 (fun s2 I2=>⟨_,H1,I2,q1⟩) hf
def zld (c:TT)(tb:TS) : TS:=fun D σ H=>∃ W:Nat->St->Hp->Prop,(∃ m,W m σ H)/\∀ m σ H,W m σ H ->
 c σ H fun b H1=>if b=true then ∃ N:St->Hp->Prop,(∀ σ' H',N σ' H'->∃ m',m' < m/\W m' σ' H')/\tb { D with nx:=N,ct:=N,bk:=D.nx } σ H1 else D.nx σ H1
theorem zlb {c:Expr}{body:List Stmt}{tc:TT}{tb:TS}(hp:PassesOwn (model X.prog X.w) X.A X.env X.xe)(hc:PT X c tc)(hb:PSs X body tb) : PS X (.While c body [] pos) (zld tc tb):=by
 intro pins s σ H D I h
 obtain ⟨W,⟨m0,w0⟩,turn⟩:=h
 refine wpAny_While (codeAny_whileLoop (fun n s'=>∃ σ' H',Inv X pins σ' H' s'/\W n σ' H') ?_ m0 ⟨σ,H,I,w0⟩)
 rintro n s1 ⟨σ1,H1,I1,w1⟩
 refine wpAny_passesOwn hp (thn (hc pins s1 σ1 H1 _ I1 (turn n σ1 H1 w1)) fun b s2 ⟨H2,I2,q2⟩=>?_)
 cases b with
 | true =>
  obtain ⟨N,hN,q2⟩:=q2
  rw [if_pos rfl]
  refine wpAny_passesOwn hp (thn (hb pins s2 σ1 H2 _ I2 q2) fun f s3 q3=>?_)
  cases f with
  | next =>
   obtain ⟨σ3,H3,I3,n3⟩:=q3
   obtain ⟨m',hm,w3⟩:=hN σ3 H3 n3
   exact ⟨m',hm,σ3,H3,I3,w3⟩
  | cont =>
   obtain ⟨σ3,H3,I3,n3⟩:=q3
   obtain ⟨m',hm,w3⟩:=hN σ3 H3 n3
   exact ⟨m',hm,σ3,H3,I3,w3⟩
  | brk=>exact q3
  | ret v=>exact q3
 | false =>
  rw [if_neg Bool.false_ne_true]
  exact wpAny_execs_nil ⟨σ1,H2,I2,q2⟩
end
structure It where
 go:Nat->Hp->Prop
 yld:Nat->Hp->V->Hp->Prop
 stop:Nat->Hp->Prop
def FpOk (X:Cx)(pins:List (Addr×Obj))(H:Hp)(b:Addr) : Prop :=
 H b=none/\b≠X.env.locals/\b∉X.fs/\(b∈X.ex\/X.s₀.heap.objs.size<=b)/\(∀ x c,X.env.cells.lookup x=some c->c≠b)/\∀ p∈X.pn++pins,p.1≠b
theorem Inv.fpOk {X:Cx}{pins:List (Addr×Obj)}{σ:St}{H H':Hp}{s:Shared}{b:Addr}(I:Inv X pins σ H s)(hb:s.heap.objs.size<=b)(hn:H' b=none) : FpOk X pins H' b:=by
 refine ⟨hn,Nat.ne_of_gt (Nat.lt_of_lt_of_le I.lt hb),I.nofs hb,.inr (Nat.le_trans I.sz hb),fun x c e z=>?_,fun p hp z=>?_⟩
 ·obtain ⟨v,q⟩:=I.cell x c e
  exact absurd (Nat.lt_of_lt_of_le q.lt (by rw [z];exact hb)) (Nat.lt_irrefl _)
 ·exact absurd (Nat.lt_of_lt_of_le (Heap.lt_size (I.pin p hp).1) (by rw [z];exact hb)) (Nat.lt_irrefl _)
structure Turn (P:Program) (w:World) (K:W.Frag) (tg:Expr) (J:It) (fp:List Addr) (it:Addr) (tn:Nat->Heap->Prop) : Prop where
 mem:it∈fp
 obj:∀ i h,tn i h->∀ b∈fp,∃ o,h.get? b=some o/\∀ v,o.data≠.cell v
 keep:∀ i h h',tn i h->(∀ b∈fp,∀ o,h.get? b=some o->h'.get? b=some o)->tn i h'
 item:∀ (X:Cx),X.prog=P->X.w=w->X.K=K->X.calm=true->∀ (i:Nat) (pins:List (Addr×Obj)) (s:Shared) (σ:St) (H:Hp) (E:Value->Shared->Prop),Inv X pins σ H s->(∀ b∈fp,FpOk X pins H b)->tn i s.heap->J.go i H ->
  wpAny (model P w) X.A (pyNext (.ref it)) (fun r s1=>∃ u,r=some u /\
   wpAny (model P w) X.A (letOwnedTupleGo tg (.ref it) u) (fun _ s2=>∃ x H',Inv X pins σ H' s2/\RelV x u/\J.yld i H x H'/\tn (i+1) s2.heap/\∀ b∈fp,H' b=none) E s1) E s
 done:∀ (X:Cx),X.prog=P->X.w=w->X.K=K->X.calm=true->∀ (i:Nat) (pins:List (Addr×Obj)) (s:Shared) (σ:St) (H:Hp) (E:Value->Shared->Prop),Inv X pins σ H s->(∀ b∈fp,FpOk X pins H b)->tn i s.heap->J.stop i H ->
  wpAny (model P w) X.A (pyNext (.ref it)) (fun r s1=>r=none/\Inv X pins σ H s1) E s
 self:∀ (A:Around) (i:Nat) (s:Shared) (Q:Value->Shared->Prop) (E:Value->Shared->Prop),tn i s.heap->Q (.ref it) s->wpAny (model P w) A (pyIter (.ref it)) Q E s
abbrev TI:=St->Hp->(It->Hp->Prop)->Prop
def PIE (X:Cx)(pins:List (Addr×Obj))(σ:St)(tg:Expr)(R:It->Hp->Prop)(itv:Value)(s2:Shared) : Prop :=
 ∃ (it:Addr) (fp:List Addr) (tn:Nat->Heap->Prop) (J:It) (H':Hp),itv=.ref it/\Inv X pins σ H' s2/\Turn X.prog X.w X.K tg J fp it tn/\tn 0 s2.heap/\(∀ b∈fp,FpOk X pins H' b)/\R J H'
def PI (X:Cx)(tg iter:Expr)(wi:TI) : Prop :=
 ∀ (pins:List (Addr×Obj)) (s:Shared) (σ:St) (H:Hp) (R:It->Hp->Prop),Inv X pins σ H s->wi σ H R ->
  wpAny (model X.prog X.w) X.A (eval iter X.env) (fun v s1=>wpAny (model X.prog X.w) X.A (pyIter v) (PIE X pins σ tg R) X.xe s1) X.xe s
theorem zms {M : Model}{A : Around}{E : Value → Shared → Prop}{s : Shared}{tg : Expr}{it : Addr}{u : Value}{o : Obj}{n : String}{vs : Array Value}{Q : Unit → Shared → Prop}(ho : s.heap.get? it = some o)(hc : o.cls = .type n)(hd : o.data = .fields vs)
    (hn : ["enumerate","zip","dict_itemiterator","dict_reverseitemiterator","odict_iterator","itertools.zip_longest","itertools.pairwise"].contains n=false) (hQ:Q () s) : wpAny M A (letOwnedTupleGo tg (.ref it) u) Q E s:=by
  unfold letOwnedTupleGo
  cases tg <;> first
    | exact wpAny_pure hQ
    | (cases u<;>first
        | exact wpAny_pure hQ
        | (refine wpAny_bind (wpAny_load ho ?_)
           rw [hc,hd]
           show wpAny M A (if (["enumerate","zip","dict_itemiterator","dict_reverseitemiterator","odict_iterator","itertools.zip_longest","itertools.pairwise"].contains n&&vs[0]? == some (rawInt _))=true then _ else _) Q E s
           rw [if_neg (by intro h;rw [hn,Bool.false_and] at h;cases h)]
           exact wpAny_pure hQ))
def Itl (K:W.Frag)(a:Addr) : It :=
 ⟨fun i H=>∃ xs x,SqL K H a xs/\xs[i]?=some x,fun i H x H'=>H'=H/\∀ xs,SqL K H a xs->xs[i]?=some x,fun i H=>∃ xs,SqL K H a xs/\xs.length<=i⟩
def Itt (K:W.Frag)(a:Addr) : It :=
 ⟨fun i H=>∃ xs x,SqT K H a xs/\xs[i]?=some x,fun i H x H'=>H'=H/\∀ xs,SqT K H a xs->xs[i]?=some x,fun i H=>∃ xs,SqT K H a xs/\xs.length<=i⟩
def Itr (lo:Int)(n:Nat) : It:=⟨fun i _=>i<n,fun i H x H'=>H'=H/\x=.int (lo+i),fun i _=>n<=i⟩
theorem zjp {P:Program}{w:World}{K:W.Frag}{tg:Expr}(a it:Addr) : Turn P w K tg (Itl K a) [it] it (fun i h=>h.IsListIter it a i) where
 mem:=by simp
 obj:=fun i h st b hb=>by
  have e:b=it:=by simpa using hb
  subst e
  obtain ⟨o,e,c,d⟩:=st
  exact ⟨o,e,fun v z=>by rw [d] at z;cases z⟩
 keep:=fun i h h' st k=>st.at fun o e=>k it (by simp) o e
 item:=by
  intro X hP hw hK hc i pins s σ H E I hf st hg
  subst hP hw hK
  obtain ⟨xs,x,hq,hx⟩:=hg
  obtain ⟨its,rv,p,hz⟩:=I.list hq
  obtain ⟨u,hu,ru⟩:=rv.get hx
  obtain ⟨f0,f1,f2,f3,f4,f5⟩:=hf it (by simp)
  refine wpAny_pyNext_list_item st p.isList (x:=u) (by simpa using hu) fun h' st' sb=>?_
  have I1:Inv X pins σ H { s with heap:=h' }:=I.turned (t':=s.toks) (fun b o hb e=>(sb.2 b hb).trans e) f0 f1 f3 f4 f5
  obtain ⟨o,e,c,d⟩:=id st'
  exact ⟨u,rfl,zms (s:={ s with heap:=h' }) e c d (by decide) ⟨x,H,I1,ru,⟨rfl,fun ys hy=>by rw [I.list_inj hy hq];exact hx⟩,st',fun b hb=>(hf b hb).1⟩⟩
 done:=by
  intro X hP hw hK hc i pins s σ H E I hf st hg
  subst hP hw hK
  obtain ⟨xs,hq,hx⟩:=hg
  obtain ⟨its,rv,p,hz⟩:=I.list hq
  obtain ⟨f0,f1,f2,f3,f4,f5⟩:=hf it (by simp)
  have hl:=rv.length
  exact wpAny_pyNext_list_end (I.ok.hd hc) st p.isList (by simp;omega) fun h' eb=>⟨rfl,I.turned (t':=s.toks) (fun b o hb e=>eb b o hb e) f0 f1 f3 f4 f5⟩
 self:=fun _ _ _ _ _ st h=>wpAny_pyIter_listiter st h
theorem ziL {P:Program}{w:World}{K:W.Frag}{tg:Expr}(a it:Addr) : Turn P w K tg (Itt K a) [it] it (fun i h=>h.IsTupleIter it a i) where
 mem:=by simp
 obj:=fun i h st b hb=>by
  have e:b=it:=by simpa using hb
  subst e
  obtain ⟨o,e,c,d⟩:=st
  exact ⟨o,e,fun v z=>by rw [d] at z;cases z⟩
 keep:=fun i h h' st k=>st.at fun o e=>k it (by simp) o e
 item:=by
  intro X hP hw hK hc i pins s σ H E I hf st hg
  subst hP hw hK
  obtain ⟨xs,x,hq,hx⟩:=hg
  obtain ⟨its,rv,p,hz⟩:=I.tuple hq
  obtain ⟨u,hu,ru⟩:=rv.get hx
  obtain ⟨f0,f1,f2,f3,f4,f5⟩:=hf it (by simp)
  refine wpAny_pyNext_tuple_item st (show s.heap.IsTuple a its.toArray from p) (x:=u) (by simpa using hu) fun h' st' sb=>?_
  have I1:Inv X pins σ H { s with heap:=h' }:=I.turned (t':=s.toks) (fun b o hb e=>(sb.2 b hb).trans e) f0 f1 f3 f4 f5
  obtain ⟨o,e,c,d⟩:=id st'
  exact ⟨u,rfl,zms (s:={ s with heap:=h' }) e c d (by decide) ⟨x,H,I1,ru,⟨rfl,fun ys hy=>by rw [I.tuple_inj hy hq];exact hx⟩,st',fun b hb=>(hf b hb).1⟩⟩
 done:=by
  intro X hP hw hK hc i pins s σ H E I hf st hg
  subst hP hw hK
  obtain ⟨xs,hq,hx⟩:=hg
  obtain ⟨its,rv,p,hz⟩:=I.tuple hq
  obtain ⟨f0,f1,f2,f3,f4,f5⟩:=hf it (by simp)
  have hl:=rv.length
  exact wpAny_pyNext_tuple_end (I.ok.hd hc) st (show s.heap.IsTuple a its.toArray from p) (by simp;omega) fun h' eb=>⟨rfl,I.turned (t':=s.toks) (fun b o hb e=>eb b o hb e) f0 f1 f3 f4 f5⟩
 self:=fun _ _ _ _ _ st h=>wpAny_pyIter_tupleiter st h
theorem zir {P:Program}{w:World}{K:W.Frag}{tg:Expr}(it:Addr)(lo:Int)(n:Nat) : Turn P w K tg (Itr lo n) [it] it (fun i h=>IsRangeIter h it (lo+(i:Nat)*1) ((n:Int)-(i:Nat)) 1) where
 mem:=by simp
 obj:=fun i h st b hb=>by
  have e:b=it:=by simpa using hb
  subst e
  exact ⟨_,st,fun v z=>by
   have z':Data.fields _=Data.cell v:=z
   cases z'⟩
 keep:=fun i h h' st k=>k it (by simp) _ st
 item:=by
  intro X hP hw hK hc i pins s σ H E I hf st hg
  subst hP hw hK
  obtain ⟨f0,f1,f2,f3,f4,f5⟩:=hf it (by simp)
  have W:=Walks.range (prog:=X.prog) (w:=X.w) (I.ok.hd hc) it lo 1 n
  refine W.item i s _ _ hg st fun v h' tk hv st' kk=>?_
  obtain ⟨t,rfl⟩:=hv
  have I1:Inv X pins σ H { s with heap:=h',toks:=tk }:=I.turned (fun b o hb e=>kk b o (by simpa using hb) e) f0 f1 f3 f4 f5
  refine ⟨_,rfl,zms (s:={ s with heap:=h',toks:=tk }) (n := "range_iterator") st' rfl rfl (by decide) ⟨.int (lo+i),H,I1,⟨t,?_⟩,⟨rfl,rfl⟩,st',fun b hb=>(hf b hb).1⟩⟩
  rw [Int.mul_one]
 done:=by
  intro X hP hw hK hc i pins s σ H E I hf st hg
  subst hP hw hK
  obtain ⟨f0,f1,f2,f3,f4,f5⟩:=hf it (by simp)
  exact wpAny_pyNext_range_end (I.ok.hd hc) st (by have:n<=i:=hg;omega) fun h' eb=>⟨rfl,I.turned (t':=s.toks) (fun b o hb e=>eb b o hb e) f0 f1 f3 f4 f5⟩
 self:=fun _ _ _ _ _ st h=>wpAny_pyIter_rangeiter st h
section
variable {X:Cx}{tg:Expr}
def zhg (K:W.Frag)(tl:TE) : TI:=fun σ H R=>tl σ H fun x H1=>∃ a,x=.ref a/\(∃ xs,SqL K H1 a xs)/\R (Itl K a) H1
def iTup (K:W.Frag)(tl:TE) : TI:=fun σ H R=>tl σ H fun x H1=>∃ a,x=.ref a/\(∃ xs,SqT K H1 a xs)/\R (Itt K a) H1
theorem zmw {l:Expr}{tl:TE}(hl:PE X l tl) : PI X tg l (zhg X.K tl):=by
 intro pins s σ H R I h
 refine thn (hl pins s σ H _ I h) fun v s1 ⟨x,H1,I1,r1,q1⟩=>?_
 obtain ⟨a,e,⟨xs,hq⟩,q⟩:=q1
 subst e
 cases r1
 obtain ⟨its,rv,p,hz⟩:=I1.list hq
 refine wpAny_pyIter_list p.isList ?_
 refine ⟨s1.heap.objs.size,[s1.heap.objs.size],_,_,H1,rfl,I1.kept (t':=s1.toks) fun b o e=>Heap.get?_push_of_some _ e,zjp a _,⟨_,Heap.get?_push_size _ rfl,rfl,rfl⟩,fun b hb=>?_,q⟩
 have e:b=s1.heap.objs.size:=by simpa using hb
 subst e
 exact I1.fpOk (Nat.le_refl _) (I1.hok.fresh (Nat.le_refl _))
theorem znZ {l:Expr}{tl:TE}(hl:PE X l tl) : PI X tg l (iTup X.K tl):=by
 intro pins s σ H R I h
 refine thn (hl pins s σ H _ I h) fun v s1 ⟨x,H1,I1,r1,q1⟩=>?_
 obtain ⟨a,e,⟨xs,hq⟩,q⟩:=q1
 subst e
 cases r1
 obtain ⟨its,rv,p,hz⟩:=I1.tuple hq
 refine wpAny_pyIter_tuple (show s1.heap.IsTuple a its.toArray from p) ?_
 refine ⟨s1.heap.objs.size,[s1.heap.objs.size],_,_,H1,rfl,I1.kept (t':=s1.toks) fun b o e=>Heap.get?_push_of_some _ e,ziL a _,⟨_,Heap.get?_push_size _ rfl,rfl,rfl⟩,fun b hb=>?_,q⟩
 have e:b=s1.heap.objs.size:=by simpa using hb
 subst e
 exact I1.fpOk (Nat.le_refl _) (I1.hok.fresh (Nat.le_refl _))
theorem zk6 {pins:List (Addr×Obj)}{σ:St}{H:Hp}{s:Shared}{R:It->Hp->Prop}{E:Value->Shared->Prop}{lo hi:Int}{t u v:Tok}{tk:Nat}(I:Inv X pins σ H s)(h1 : -(2 ^ 62)<=lo)(h2:lo<2 ^ 62)(h3 : -(2 ^ 62)<=hi)(h4:hi<2 ^ 62)
  (q:R (Itr lo (hi-lo).toNat) H) : wpAny (model X.prog X.w) X.A (pyIter (.ref s.heap.objs.size)) (PIE X pins σ tg R) E { s with heap:=s.heap.push { cls:=.type "range", data:=.fields #[.int lo t,.int hi u,.int 1 v] },toks:=tk }:=by
 refine wpAny_pyIter_range (IsRange.new ..) (small_one h1 h2 h3 h4) ?_
 have I1:Inv X pins σ H { s with heap:=s.heap.push { cls:=.type "range", data:=.fields #[.int lo t,.int hi u,.int 1 v] },toks:=tk }:=I.kept fun b o e=>Heap.get?_push_of_some _ e
 refine ⟨(s.heap.push { cls:=.type "range", data:=.fields #[.int lo t,.int hi u,.int 1 v] }).objs.size,[(s.heap.push { cls:=.type "range", data:=.fields #[.int lo t,.int hi u,.int 1 v] }).objs.size],_,_,H,rfl,
  I1.kept (t':=tk) fun b o e=>Heap.get?_push_of_some _ e,zir _ lo (hi-lo).toNat,?_,fun b hb=>?_,q⟩
 ·have e1:lo+((0:Nat) : Int)*1=lo:=by simp
  have e2:(((hi-lo).toNat:Nat) : Int)-((0:Nat) : Int)=Builtin.Range.rangeSize lo hi 1:=by rw [rangeSize_one];split<;>omega
  show IsRangeIter _ _ (lo+((0:Nat) : Int)*1) ((((hi-lo).toNat:Nat) : Int)-((0:Nat) : Int)) 1
  rw [e1,e2]
  exact Heap.get?_push_size _ rfl
 ·have e:b=(s.heap.push { cls:=.type "range", data:=.fields #[.int lo t,.int hi u,.int 1 v] }).objs.size:=by simpa using hb
  subst e
  exact I1.fpOk (Nat.le_refl _) (I1.hok.fresh (Nat.le_refl _))
def znY (ta:TA) : TI:=fun σ H R=>ta σ H fun vs H1=>∃ j:Int,vs=[.int j] /\ -(2 ^ 62)<=j/\j<2 ^ 62/\R (Itr 0 j.toNat) H1
theorem zjm {a:Expr}{ta:TA}{p pos:Pos}(hg:Gl X "range")(hm:X.mg "range" = none)(ha:PA X [a] ta)(hs:starEach [a] X.env=[(false,eval a X.env)]:=by rfl) : PI X tg (.Call (.Name "range" p) [a] [] pos) (znY ta):=by
 intro pins s σ H R I h
 refine Call_ (zhZ I hg hm boot_range (PyProof.Rows.callWith_type1 (thn (ha pos pins s σ H _ I h) fun us s1 ⟨vs,H1,I1,r1,q1⟩=>?_) hs rfl))
 obtain ⟨j,e,q1,q2,q⟩:=q1
 subst e
 cases r1 with
 | cons r rr =>
  cases rr
  obtain ⟨t,rfl⟩:=r
  exact call_range_1 (zk6 I1 (by omega) (by omega) q1 q2 (by simpa using q))
def tFor (wi:TI)(g:TG)(tb:TS) : TS:=fun D σ H=>wi σ H fun J H1=>∃ W:Nat->Nat->St->Hp->Prop,(∃ m,W 0 m σ H1)/\∀ i m σ H,W i m σ H ->
 (J.stop i H/\D.nx σ H)\/(J.go i H/\∃ N:St->Hp->Prop,(∀ σ' H',N σ' H'->∃ m',m' < m/\W (i+1) m' σ' H')/\∀ x H',J.yld i H x H'->g x σ H' fun σ2 H2=>tb { D with nx:=N,ct:=N,bk:=D.nx } σ2 H2)
def zeZ (fp:List Addr)(h:Heap) : List (Addr×Obj):=fp.filterMap fun b=>(h.get? b).map fun o=>(b,o)
theorem zbv {fp:List Addr}{h:Heap}{b:Addr}{o:Obj}(hb:b∈fp)(e:h.get? b=some o) : (b,o)∈zeZ fp h:=List.mem_filterMap.mpr ⟨b,hb,by rw [e];rfl⟩
theorem zi4 {fp:List Addr}{h:Heap}{p:Addr×Obj}(hp:p∈zeZ fp h) : p.1∈fp/\h.get? p.1=some p.2:=by
 obtain ⟨b,hb,e⟩:=List.mem_filterMap.mp hp
 cases q:h.get? b with
 | none=>rw [q] at e;cases e
 | some o =>
  rw [q] at e
  have e':(b,o)=p:=Option.some.inj e
  subst e'
  exact ⟨hb,q⟩
theorem Inv.pinned {pins:List (Addr×Obj)}{σ:St}{H:Hp}{s:Shared}{fp:List Addr}(I:Inv X pins σ H s)(hf:∀ b∈fp,FpOk X pins H b)(ho:∀ b∈fp,∃ o,s.heap.get? b=some o/\∀ v,o.data≠.cell v) : Inv X (pins++zeZ fp s.heap) σ H s :=
 I.pins_of fun p hp=>(List.mem_append.mp hp).elim (fun z=>I.pin p (List.mem_append_right _ z)) fun z=>by
  obtain ⟨hb,e⟩:=zi4 z
  obtain ⟨f0,f1,f2,_⟩:=hf p.1 hb
  obtain ⟨o,e',d⟩:=ho p.1 hb
  rw [e] at e';cases e'
  exact ⟨e,f0,f1,f2,d⟩
theorem Inv.unpinned {pins pl:List (Addr×Obj)}{σ:St}{H:Hp}{s:Shared}(I:Inv X (pins++pl) σ H s) : Inv X pins σ H s:=I.pins_of fun p hp=>I.pin p (List.mem_append_right _ (List.mem_append_left _ hp))
theorem zmT {iter:Expr}{body:List Stmt}{wi:TI}{g:TG}{tb:TS}{pos:Pos}(hp:PassesOwn (model X.prog X.w) X.A X.env X.xe)(hc:X.calm=true)(hi:PI X tg iter wi)(hg:PG X tg g)(hb:PSs X body tb)
  (hs:∀ x,foldedSetIterable iter X.env x=pure x:=by intro _;rfl) : PS X (.For tg iter body [] pos) (tFor wi g tb):=by
 intro pins s σ H D I h
 refine wpAny_For (thn (hi pins s σ H _ I h) fun v s1 h1=>thn h1 fun itv s2 h2=>?_) hs
 obtain ⟨it,fp,tn,J,H2,e,I2,T,st2,f2,W,⟨m0,w0⟩,turn⟩:=h2
 subst e
 have stat:∀ {H':Hp},(∀ b∈fp,H' b=none)->∀ b∈fp,FpOk X pins H' b:=fun hn b hb=>⟨hn b hb,(f2 b hb).2⟩
 refine codeAny_forLoop_any (fun n s'=>∃ i σ' H',Inv X pins σ' H' s'/\tn i s'.heap/\(∀ b∈fp,H' b=none)/\W i n σ' H') ?_ m0 ⟨0,σ,H2,I2,st2,fun b hb=>(f2 b hb).1,w0⟩
 rintro n s3 ⟨i,σ3,H3,I3,st3,fr3,w3⟩
 rcases turn i n σ3 H3 w3 with ⟨stop,qn⟩ | ⟨go,N,hN,step⟩
 ·refine wpAny_passesOwn hp (thn (T.done X rfl rfl rfl hc i pins s3 σ3 H3 X.xe I3 (stat fr3) st3 stop) fun r s4 ⟨hr,I4⟩=>?_)
  subst hr
  exact wpAny_execs_nil ⟨σ3,H3,I4,qn⟩
 ·refine wpAny_passesOwn hp (thn (T.item X rfl rfl rfl hc i pins s3 σ3 H3 X.xe I3 (stat fr3) st3 go) fun r s4 ⟨u,hr,h4⟩=>?_)
  subst hr
  refine wpAny_passesOwn hp (thn h4 fun _ s5 ⟨x,H5,I5,r5,y5,st5,fr5⟩=>?_)
  have I5':=I5.pinned (stat fr5) (T.obj _ _ st5)
  refine wpAny_passesOwn hp (thn (hg _ s5 σ3 H5 x u _ I5' r5 (step x H5 y5)) fun _ s6 ⟨σ6,H6,I6,q6⟩=>?_)
  refine wpAny_passesOwn hp (thn (hb _ s6 σ6 H6 _ I6 q6) fun f s7 q7=>?_)
  have again:∀ {σ7:St} {H7:Hp},Inv X (pins++zeZ fp s5.heap) σ7 H7 s7->N σ7 H7->∃ m,m<n/\∃ i σ' H',Inv X pins σ' H' s7/\tn i s7.heap/\(∀ b∈fp,H' b=none)/\W i m σ' H':=fun {σ7 H7} I7 n7=>by
   obtain ⟨m',hm,w7⟩:=hN σ7 H7 n7
   refine ⟨m',hm,i+1,σ7,H7,I7.unpinned,T.keep _ _ _ st5 fun b hb o e=>(I7.pin (b,o) (List.mem_append_right _ (List.mem_append_right _ (zbv hb e)))).1,fun b hb=>?_,w7⟩
   obtain ⟨o,e,d⟩:=T.obj _ _ st5 b hb
   exact (I7.pin (b,o) (List.mem_append_right _ (List.mem_append_right _ (zbv hb e)))).2.1
  cases f with
  | next=>obtain ⟨σ7,H7,I7,n7⟩:=q7;exact again I7 n7
  | cont=>obtain ⟨σ7,H7,I7,n7⟩:=q7;exact again I7 n7
  | brk=>obtain ⟨σ7,H7,I7,q7⟩:=q7;exact ⟨σ7,H7,I7.unpinned,q7⟩
  | ret v=>obtain ⟨x7,σ7,H7,I7,r7,q7⟩:=q7;exact ⟨x7,σ7,H7,I7.unpinned,r7,q7⟩
end
theorem zbl {K:W.Frag}{a:Addr}{xs:List V}{g:TG}{tb:TS}{D:Ends}{σ:St}{H:Hp}(Pv:Nat->St->Hp->Prop)(h0:Pv 0 σ H)(hl:∀ i σ H,i<=xs.length->Pv i σ H->SqL K H a xs)
  (hs:∀ i x σ H,xs[i]?=some x->Pv i σ H->g x σ H fun σ2 H2=>tb { D with nx:=Pv (i+1),ct:=Pv (i+1),bk:=D.nx } σ2 H2) (hd:∀ σ H,Pv xs.length σ H->D.nx σ H) :
  ∃ W:Nat->Nat->St->Hp->Prop,(∃ m,W 0 m σ H)/\∀ i m σ H,W i m σ H ->
   ((Itl K a).stop i H/\D.nx σ H)\/((Itl K a).go i H/\∃ N:St->Hp->Prop,(∀ σ' H',N σ' H'->∃ m',m' < m/\W (i+1) m' σ' H')/\∀ x H',(Itl K a).yld i H x H'->g x σ H' fun σ2 H2=>tb { D with nx:=N,ct:=N,bk:=D.nx } σ2 H2):=by
 refine ⟨fun i m σ H=>m=xs.length-i/\i<=xs.length/\Pv i σ H,⟨xs.length,by simp,Nat.zero_le _,h0⟩,?_⟩
 rintro i m σ H ⟨rfl,hi,p⟩
 have q:=hl i σ H hi p
 by_cases hlt:i<xs.length
 ·refine .inr ⟨⟨xs,xs[i],q,by simp [hlt]⟩,Pv (i+1),fun σ' H' p'=>⟨xs.length-(i+1),by omega,rfl,hlt,p'⟩,fun x H' y=>?_⟩
  obtain ⟨e,y⟩:=y
  subst e
  exact hs i x σ _ (y xs q) p
 ·have e:i=xs.length:=by omega
  subst e
  exact .inl ⟨⟨xs,q,Nat.le_refl _⟩,hd σ H p⟩
theorem zeb {lo:Int}{n:Nat}{g:TG}{tb:TS}{D:Ends}{σ:St}{H:Hp}(Pv:Nat->St->Hp->Prop)(h0:Pv 0 σ H)
  (hs:∀ i σ H,i<n->Pv i σ H->g (.int (lo+i)) σ H fun σ2 H2=>tb { D with nx:=Pv (i+1),ct:=Pv (i+1),bk:=D.nx } σ2 H2) (hd:∀ σ H,Pv n σ H->D.nx σ H) :
  ∃ W:Nat->Nat->St->Hp->Prop,(∃ m,W 0 m σ H)/\∀ i m σ H,W i m σ H ->
   ((Itr lo n).stop i H/\D.nx σ H)\/((Itr lo n).go i H/\∃ N:St->Hp->Prop,(∀ σ' H',N σ' H'->∃ m',m' < m/\W (i+1) m' σ' H')/\∀ x H',(Itr lo n).yld i H x H'->g x σ H' fun σ2 H2=>tb { D with nx:=N,ct:=N,bk:=D.nx } σ2 H2):=by
 refine ⟨fun i m σ H=>m=n-i/\i<=n/\Pv i σ H,⟨n,by simp,Nat.zero_le _,h0⟩,?_⟩
 rintro i m σ H ⟨rfl,hi,p⟩
 by_cases hlt:i<n
 ·refine .inr ⟨hlt,Pv (i+1),fun σ' H' p'=>⟨n-(i+1),by omega,rfl,hlt,p'⟩,fun x H' y=>?_⟩
  obtain ⟨e,y⟩:=y
  subst e y
  exact hs i σ _ hlt p
 ·have e:i=n:=by omega
  subst e
  exact .inl ⟨Nat.le_refl _,hd σ H p⟩
abbrev R2:=V->V->Hp->VK->Prop
def OpR (X:Cx)(f:Value->Value->Sem Value)(r:R2) : Prop :=
 ∀ (pins:List (Addr×Obj)) (s:Shared) (σ:St) (H:Hp) (x y:V) (v u:Value) (Q:VK),Inv X pins σ H s->RelV x v->RelV y u->r x y H Q ->
  wpAny (model X.prog X.w) X.A (f v u) (EP X pins σ Q) X.xe s
def UnR (X:Cx)(f:Value->Sem Value)(r:V->Hp->VK->Prop) : Prop :=
 ∀ (pins:List (Addr×Obj)) (s:Shared) (σ:St) (H:Hp) (x:V) (v:Value) (Q:VK),Inv X pins σ H s->RelV x v->r x H Q ->
  wpAny (model X.prog X.w) X.A (f v) (EP X pins σ Q) X.xe s
def zb4 (X:Cx)(f:Value)(r:List V->Hp->VK->Prop) : Prop :=
 ∀ (pins:List (Addr×Obj)) (s:Shared) (σ:St) (H:Hp) (xs:List V) (us:List Value) (Q:VK),Inv X pins σ H s->Vals xs us->r xs H Q ->
  wpAny (model X.prog X.w) X.A (call f us) (EP X pins σ Q) X.xe s
def tOp (r:R2)(ta tb:TE) : TE:=fun σ H Q=>ta σ H fun x H1=>tb σ H1 fun y H2=>r x y H2 Q
def tUn (r:V->Hp->VK->Prop)(ta:TE) : TE:=fun σ H Q=>ta σ H fun x H1=>r x H1 Q
def rI (C:Int->Int->Prop)(g:Int->Int->V) : R2:=fun x y H Q=>∃ i j,x=.int i/\y=.int j/\C i j/\Q (g i j) H
def rI0 (g:Int->Int->V) : R2:=fun x y H Q=>∃ i j,x=.int i/\y=.int j/\Q (g i j) H
def rU (g:Int->V) : V->Hp->VK->Prop:=fun x H Q=>∃ i,x=.int i/\Q (g i) H
section
variable {X:Cx}{a b c:Expr}{ta tb tc:TE}{pos:Pos}
theorem binT (ha:PE X a ta)(hb:PE X b tb){pins:List (Addr×Obj)}{s:Shared}{σ:St}{H:Hp}{R:V->V->Hp->Prop}(I:Inv X pins σ H s)
  (h:ta σ H fun x H1=>tb σ H1 fun y H2=>R x y H2) {Q:Value->Shared->Prop} {f:Value->Value->Sem Value}
  (hf:∀ v u s2 x y H2,Inv X pins σ H2 s2->RelV x v->RelV y u->R x y H2->wpAny (model X.prog X.w) X.A (f v u) Q X.xe s2) :
  wpAny (model X.prog X.w) X.A (eval a X.env) (fun v s₁=>wpAny (model X.prog X.w) X.A (eval b X.env) (fun u s₂=>wpAny (model X.prog X.w) X.A (f v u) Q X.xe s₂) X.xe s₁) X.xe s:=by
 refine thn (ha pins s σ H _ I h) fun v s1 ⟨x,H1,I1,r1,q1⟩=>?_
 refine thn (hb pins s1 σ H1 _ I1 q1) fun u s2 ⟨y,H2,I2,r2,q2⟩=>?_
 exact hf v u s2 x y H2 I2 r1 r2 q2
theorem zoe {op:Operator}{r:R2}(ho:OpR X (binaryOp op) r)(ha:PE X a ta)(hb:PE X b tb) : PE X (.BinOp a op b pos) (tOp r ta tb):=by
 intro pins s σ H Q I h
 exact wpAny_BinOp (binT ha hb I h fun v u s2 x y H2 I2 rx ry q=>ho pins s2 σ H2 x y v u Q I2 rx ry q)
theorem zot {op:UnaryOp}{r:V->Hp->VK->Prop}(ho:UnR X (unaryOp op) r)(ha:PE X a ta) : PE X (.UnaryOp op a pos) (tUn r ta):=by
 intro pins s σ H Q I h
 exact UnaryOp_ (thn (ha pins s σ H _ I h) fun v s1 ⟨x,H1,I1,r1,q1⟩=>ho pins s1 σ H1 x v Q I1 r1 q1)
theorem opI {f:Value->Value->Sem Value}{C:Int->Int->Prop}{g:Int->Int->Int}
  (rule:∀ (i j:Int) (t u:Tok) (s:Shared) (Q:Value->Shared->Prop) (E:Value->Shared->Prop),C i j->Q (.int (g i j) s.toks) { s with toks:=s.toks+1 }->wpAny (model X.prog X.w) X.A (f (.int i t) (.int j u)) Q E s) :
  OpR X f (rI C fun i j=>.int (g i j)):=by
 intro pins s σ H x y v u Q I rx ry h
 obtain ⟨i,j,rfl,rfl,hc,q⟩:=h
 obtain ⟨t,rfl⟩:=rx
 obtain ⟨t',rfl⟩:=ry
 exact rule i j t t' s _ _ hc ⟨.int (g i j),H,I.tok _,⟨_,rfl⟩,q⟩
theorem opI0 {f:Value->Value->Sem Value}{g:Int->Int->Int}
  (rule:∀ (i j:Int) (t u:Tok) (s:Shared) (Q:Value->Shared->Prop) (E:Value->Shared->Prop),Q (.int (g i j) s.toks) { s with toks:=s.toks+1 }->wpAny (model X.prog X.w) X.A (f (.int i t) (.int j u)) Q E s) :
  OpR X f (rI0 fun i j=>.int (g i j)):=by
 intro pins s σ H x y v u Q I rx ry h
 obtain ⟨i,j,rfl,rfl,q⟩:=h
 obtain ⟨t,rfl⟩:=rx
 obtain ⟨t',rfl⟩:=ry
 exact rule i j t t' s _ _ ⟨.int (g i j),H,I.tok _,⟨_,rfl⟩,q⟩
theorem opB0 {f:Value->Value->Sem Value}{g:Int->Int->Bool}
  (rule:∀ (i j:Int) (t u:Tok) (s:Shared) (Q:Value->Shared->Prop) (E:Value->Shared->Prop),Q (.bool (g i j)) s->wpAny (model X.prog X.w) X.A (f (.int i t) (.int j u)) Q E s) :
  OpR X f (rI0 fun i j=>.bl (g i j)):=by
 intro pins s σ H x y v u Q I rx ry h
 obtain ⟨i,j,rfl,rfl,q⟩:=h
 obtain ⟨t,rfl⟩:=rx
 obtain ⟨t',rfl⟩:=ry
 exact rule i j t t' s _ _ ⟨.bl (g i j),H,I,rfl,q⟩
def CDiv (i j:Int) : Prop:=0<j/\j<1073741824
def CPow (i j:Int) : Prop:=0<=j/\j<=1000000/\i.natAbs<2 ^ 64
def CMul (i j:Int) : Prop:=(-(2 ^ 64)<i/\i<2 ^ 64)\/(-(2 ^ 64)<j/\j<2 ^ 64)
theorem CMul.ok {i j:Int}(h:CMul i j) : IntMulOk i j:=by
 rcases h with ⟨h1,h2⟩ | ⟨h1,h2⟩
 ·exact .of_left (intBits_le_64 h1 h2)
 ·exact .of_right (intBits_le_64 h1 h2)
theorem zn0:OpR X (binaryOp .Add) (rI0 fun i j=>.int (i+j)):=opI0 fun _ _ _ _ _ _ _ q=>add_int q
theorem znn:OpR X (binaryOp .Sub) (rI0 fun i j=>.int (i-j)):=opI0 fun _ _ _ _ _ _ _ q=>sub_int q
theorem znB:OpR X (binaryOp .Mult) (rI CMul fun i j=>.int (i*j)):=opI fun _ _ _ _ _ _ _ hc q=>mul_int q hc.ok
theorem zmE:OpR X (binaryOp .FloorDiv) (rI CDiv fun i j=>.int (i / j)):=opI fun i j _ _ _ _ _ hc q=>by
 have h1:(0:Int)<j:=hc.1
 have h2:j<1073741824:=hc.2
 exact floordiv_int (by omega) (by rw [Int.fdiv_eq_ediv_of_nonneg i (by omega)];exact q) (.inl (PyProof.noPylong_small (by omega)))
theorem znJ:OpR X (binaryOp .Mod) (rI (fun _ j=>0<j) fun i j=>.int (i % j)):=opI fun i j _ _ _ _ _ hc q=>by
 have h1:(0:Int)<j:=hc
 exact mod_int' (by omega) (by rw [Int.fmod_eq_emod_of_nonneg i (by omega)];exact q)
theorem zm6:OpR X (binaryOp .Pow) (rI CPow fun i j=>.int (i ^ j.toNat)):=opI fun _ _ _ _ _ _ _ hc q=>pow_int_small hc.1 hc.2.1 hc.2.2 q
theorem unI {f:Value->Sem Value}{g:Int->Int}
  (rule:∀ (i:Int) (t:Tok) (s:Shared) (Q:Value->Shared->Prop) (E:Value->Shared->Prop),Q (.int (g i) s.toks) { s with toks:=s.toks+1 }->wpAny (model X.prog X.w) X.A (f (.int i t)) Q E s) :
  UnR X f (rU fun i=>.int (g i)):=by
 intro pins s σ H x v Q I rx h
 obtain ⟨i,rfl,q⟩:=h
 obtain ⟨t,rfl⟩:=rx
 exact rule i t s _ _ ⟨.int (g i),H,I.tok _,⟨_,rfl⟩,q⟩
theorem znO:UnR X (unaryOp .USub) (rU fun i=>.int (-i)):=unI fun _ _ _ _ _ q=>neg_int q
def scal:V->V->Bool
 | .non,.non=>true | .non,.int _=>true | .int _,.non=>true | .non,.bl _=>true | .bl _,.non=>true | .non,.str _=>true | .str _,.non=>true
 | .int _,.int _=>true | .bl _,.bl _=>true | .str _,.str _=>true | .byt _,.byt _=>true
 | .int _,.str _=>true | .str _,.int _=>true | .bl _,.str _=>true | .str _,.bl _=>true
 | _,_=>false
def rEq:R2:=fun x y H Q=>scal x y=true/\Q (.bl (decide (x=y))) H
def rNe:R2:=fun x y H Q=>scal x y=true/\Q (.bl (!decide (x=y))) H
theorem zj0 {i j:Int} : decide (V.int i=V.int j)=(i == j):=by
 rw [Bool.eq_iff_iff]
 simp
theorem zlC {i j:Bool} : decide (V.bl i=V.bl j)=(i == j):=by
 rw [Bool.eq_iff_iff]
 simp
theorem zkc {i j:Str} : decide (V.str i=V.str j)=(i == j):=by
 rw [Bool.eq_iff_iff]
 simp
theorem zkg {i j:Array UInt8} : decide (V.byt i=V.byt j)=(i.toList == j.toList):=by
 rw [Bool.eq_iff_iff]
 cases i
 cases j
 simp
theorem zay {pins:List (Addr×Obj)}{σ:St}{H:Hp}{s:Shared}{Q:VK}{k k':Bool}(I:Inv X pins σ H s)(q:Q (.bl k) H)(e:k=k') : EP X pins σ Q (.bool k') s:=by
 subst e
 exact ⟨.bl k,H,I,rfl,q⟩
theorem zos:OpR X (compareOp .Eq) rEq:=by
 intro pins s σ H x y v u Q I rx ry h
 obtain ⟨hs,q⟩:=h
 cases x with
 | non =>
  cases rx
  cases y with
  | non=>cases ry;exact PySem.EqNone.eq_none_none (zay I q (by simp))
  | bl j=>cases ry;exact PySem.EqNone.eq_none_bool (zay I q (by simp))
  | int j=>obtain ⟨t',rfl⟩:=ry;exact PySem.EqNone.eq_none_int (zay I q (by simp))
  | str j=>obtain ⟨t',rfl⟩:=ry;exact PySem.EqNone.eq_none_str (zay I q (by simp))
  | _=>exact absurd (show false=true from hs) Bool.false_ne_true
 | bl i =>
  cases rx
  cases y with
  | non=>cases ry;exact PySem.EqNone.eq_bool_none (zay I q (by simp))
  | bl j=>cases ry;exact eq_bool (zay I q zlC)
  | str j=>obtain ⟨t',rfl⟩:=ry;exact PySem.EqMixed.eq_bool_str (zay I q (by simp))
  | _=>exact absurd (show false=true from hs) Bool.false_ne_true
 | int i =>
  obtain ⟨t,rfl⟩:=rx
  cases y with
  | non=>cases ry;exact PySem.EqNone.eq_int_none (zay I q (by simp))
  | int j=>obtain ⟨t',rfl⟩:=ry;exact eq_int (zay I q zj0)
  | str j=>obtain ⟨t',rfl⟩:=ry;exact PySem.EqMixed.eq_int_str (zay I q (by simp))
  | _=>exact absurd (show false=true from hs) Bool.false_ne_true
 | str i =>
  obtain ⟨t,rfl⟩:=rx
  cases y with
  | non=>cases ry;exact PySem.EqNone.eq_str_none (zay I q (by simp))
  | bl j=>cases ry;exact PySem.EqMixed.eq_str_bool (zay I q (by simp))
  | int j=>obtain ⟨t',rfl⟩:=ry;exact PySem.EqMixed.eq_str_int (zay I q (by simp))
  | str j=>obtain ⟨t',rfl⟩:=ry;exact eq_str (zay I q zkc)
  | _=>exact absurd (show false=true from hs) Bool.false_ne_true
 | byt i =>
  obtain ⟨t,rfl⟩:=rx
  cases y with
  | byt j=>obtain ⟨t',rfl⟩:=ry;exact W.eq_bytes (zay I q zkg)
  | _=>exact absurd (show false=true from hs) Bool.false_ne_true
 | _=>cases y<;>exact absurd (show false=true from hs) Bool.false_ne_true
theorem zn5:OpR X (compareOp .NotEq) rNe:=by
 intro pins s σ H x y v u Q I rx ry h
 obtain ⟨hs,q⟩:=h
 cases x with
 | non =>
  cases rx
  cases y with
  | non=>cases ry;exact PySem.EqNone.ne_none_none (zay I q (by simp))
  | bl j=>cases ry;exact PySem.EqNone.ne_none_bool (zay I q (by simp))
  | int j=>obtain ⟨t',rfl⟩:=ry;exact PySem.EqNone.ne_none_int (zay I q (by simp))
  | str j=>obtain ⟨t',rfl⟩:=ry;exact PySem.EqNone.ne_none_str (zay I q (by simp))
  | _=>exact absurd (show false=true from hs) Bool.false_ne_true
 | bl i =>
  cases rx
  cases y with
  | non=>cases ry;exact PySem.EqNone.ne_bool_none (zay I q (by simp))
  | bl j=>cases ry;exact ne_bool (zay I q (congrArg not zlC))
  | str j=>obtain ⟨t',rfl⟩:=ry;exact PySem.EqMixed.ne_bool_str (zay I q (by simp))
  | _=>exact absurd (show false=true from hs) Bool.false_ne_true
 | int i =>
  obtain ⟨t,rfl⟩:=rx
  cases y with
  | non=>cases ry;exact PySem.EqNone.ne_int_none (zay I q (by simp))
  | int j=>obtain ⟨t',rfl⟩:=ry;exact ne_int (zay I q (congrArg not zj0))
  | str j=>obtain ⟨t',rfl⟩:=ry;exact PySem.EqMixed.ne_int_str (zay I q (by simp))
  | _=>exact absurd (show false=true from hs) Bool.false_ne_true
 | str i =>
  obtain ⟨t,rfl⟩:=rx
  cases y with
  | non=>cases ry;exact PySem.EqNone.ne_str_none (zay I q (by simp))
  | bl j=>cases ry;exact PySem.EqMixed.ne_str_bool (zay I q (by simp))
  | int j=>obtain ⟨t',rfl⟩:=ry;exact PySem.EqMixed.ne_str_int (zay I q (by simp))
  | str j=>obtain ⟨t',rfl⟩:=ry;exact ne_str (zay I q (congrArg not zkc))
  | _=>exact absurd (show false=true from hs) Bool.false_ne_true
 | byt i =>
  obtain ⟨t,rfl⟩:=rx
  cases y with
  | byt j=>obtain ⟨t',rfl⟩:=ry;exact W.ne_bytes (zay I q (congrArg not zkg))
  | _=>exact absurd (show false=true from hs) Bool.false_ne_true
 | _=>cases y<;>exact absurd (show false=true from hs) Bool.false_ne_true
theorem zon:OpR X (compareOp .Lt) (rI0 fun i j=>.bl (decide (i<j))):=opB0 fun _ _ _ _ _ _ _ q=>lt_int q
theorem zob:OpR X (compareOp .Gt) (rI0 fun i j=>.bl (decide (j<i))):=opB0 fun _ _ _ _ _ _ _ q=>gt_int q
theorem zn4:OpR X (compareOp .GtE) (rI0 fun i j=>.bl (decide (j<=i))):=opB0 fun _ _ _ _ _ _ _ q=>ge_int q
theorem zlo (b:Expr){op:CmpOp}(h:op≠.In:=by decide)(h2:op≠.NotIn:=by decide) : behindInMarks op b=false:=by
 have e1:(op == CmpOp.In)=false:=by cases op<;>first | rfl | exact absurd rfl h
 have e2:(op == CmpOp.NotIn)=false:=by cases op<;>first | rfl | exact absurd rfl h2
 cases b<;>simp [behindInMarks,e1,e2]
theorem zl2 {op:CmpOp}{r:R2}(ho:OpR X (compareOp op) r)(ha:PE X a ta)(hb:PE X b tb)(hm:behindInMarks op b=false) : PE X (.Compare a [op] [b] pos) (tOp r ta tb):=by
 intro pins s σ H Q I h
 exact wpAny_Compare1 (binT ha hb I h fun v u s2 x y H2 I2 rx ry q=>ho pins s2 σ H2 x y v u Q I2 rx ry q) hm
def zb3 (t:TE) : TT:=fun σ H Q=>t σ H fun x H'=>∃ k,x=.bl k/\Q k H'
theorem zfB {op:CmpOp}{r:R2}(ho:OpR X (compareOp op) r)(ha:PE X a ta)(hb:PE X b tb)(hm:behindInMarks op b=false) : PT X (.Compare a [op] [b] pos) (zb3 (tOp r ta tb)):=by
 intro pins s σ H Q I h
 refine wpAny_isTrue_Compare1 (thn (ha pins s σ H _ I h) fun v s1 ⟨x,H1,I1,r1,q1⟩=>thn (hb pins s1 σ H1 _ I1 q1) fun u s2 ⟨y,H2,I2,r2,q2⟩ =>
  thn (ho pins s2 σ H2 x y v u _ I2 r1 r2 q2) fun c s3 ⟨z,H3,I3,r3,k,e,q3⟩=>?_) hm
 subst e
 cases r3
 exact wpAny_truthy_bool ⟨H3,I3,q3⟩
theorem zfU:(sizeLine:Nat)<2 ^ 63:=by rw [sizeLine_eq];decide
theorem ziA:OpR X (binaryOp .Add) (fun x y H Q=>∃ i j,x=.str i/\y=.str j/\i.length+j.length<=sizeLine/\Q (.str (i++j)) H):=by
 intro pins s σ H x y v u Q I rx ry h
 obtain ⟨i,j,rfl,rfl,hz,q⟩:=h
 obtain ⟨t,rfl⟩:=rx
 obtain ⟨t',rfl⟩:=ry
 exact add_str (fun t' tk=>⟨.str (i++j),H,I.tok _,⟨_,rfl⟩,q⟩) hz
theorem vals1 {x:V}{us:List Value}(r:Vals [x] us) : ∃ u,us=[u]/\RelV x u:=by
 cases r with
 | cons r1 r2=>cases r2;exact ⟨_,rfl,r1⟩
theorem vals2 {x y:V}{us:List Value}(r:Vals [x,y] us) : ∃ u w',us=[u,w']/\RelV x u/\RelV y w':=by
 cases r with
 | cons r1 r2 =>
  cases r2 with
  | cons r3 r4=>cases r4;exact ⟨_,_,rfl,r1,r3⟩
end
structure ObjM (h:Heap) (x dx C:Addr) (mA:Str->Option Value) : Prop where
 obj:h.get? x=some (W.instObj C dx)
 ns:h.Ns1 dx mA
 ne:dx≠x
theorem zi2 {h:Heap}{dx:Addr}{mA:Str->Option Value}(n:h.Ns1 dx mA) : ∃ od,h.get? dx=some od/\∀ name,W.lookIn name od=some (mA name):=by
 obtain ⟨o,es,ep,ho,hd,hk,_,hm⟩:=n
 refine ⟨o,ho,fun name=>?_⟩
 have e:=hm name
 unfold nsFind findBy at e
 rw [<- Array.find?_toList] at e
 unfold W.lookIn
 rw [hd]
 dsimp only
 split
 ·rename_i y q
  rw [q] at e
  exact congrArg some e
 ·rename_i q
  rw [q] at e
  have a:es.toList.any (·.refKey)=false:=by
   rw [List.any_eq_false]
   intro y hy
   obtain ⟨z,t,hkey⟩:=hk y (Array.mem_toList_iff.mp hy)
   simp [DictEntry.refKey,hkey]
  have a' : ¬ es.toList.any (·.refKey)=true:=by rw [a];exact Bool.false_ne_true
  rw [if_neg a']
  exact congrArg some e
theorem ObjM.look {h:Heap}{x dx C:Addr}{mA:Str->Option Value}(I:ObjM h x dx C mA) : ∃ od,W.InstAt h x (W.instObj C dx) C (some od)/\∀ name,W.lookIn name od=some (mA name) :=
 let ⟨od,ho,hl⟩:=zi2 I.ns
 ⟨od,⟨I.obj,rfl,rfl,ho⟩,hl⟩
section
variable {prog:Program}{w:World}{A:Around}{E:Value->Shared->Prop}{s:Shared}{K:W.Frag}{x dx C f:Addr}{mA:Str->Option Value}{name:Str}{v:Value}
end
theorem RelO.some_of {v:V}{o:Option Value}(r:RelO (some v) o) : ∃ u,o=some u/\RelV v u:=by
 cases o with
 | none=>exact (show False from r).elim
 | some u=>exact ⟨u,rfl,r⟩
section
variable {P:Program}{w:World}{H H':Hp}{h h':Heap}{a C dx:Addr}{fs fs':List (Str×V)}
theorem zfJ (hok:HOk P w H h)(e:H a=some (.ins C dx fs)) : ∃ mA,ObjM h a dx C mA/\(∀ f,RelO (fs.lookup f) (mA f))/\PySem.Within mA (fs.map (·.1))/\fs.length<=1000/\H dx=some (.own a):=by
 obtain ⟨d,z,ne,ob,mA,n,r,q⟩:=(show ObjOk P w H h a (.ins C dx fs) from hok a _ e)
 exact ⟨mA,⟨ob,n,ne⟩,r,q,z,d⟩
end
structure Cls (K:W.Frag) (C:Addr) : Prop where
 pg:W.plainGet K C Str.empty=true
 hd:W.hasDictIn K C=true
 po:W.plainOver K C=true
 sa:W.findIn K (.ref C) "__setattr__" = some (some (.builtin "object.__setattr__"))
theorem Cls.get {K:W.Frag}{C:Addr}(c:Cls K C)(f:Str) : W.plainGet K C f=true:=c.pg
section
variable {X:Cx}{pins:List (Addr×Obj)}{σ:St}{H:Hp}{s:Shared}{a C dx:Addr}{fs:List (Str×V)}{f:Str}{v:V}{A:Around}{E:Value->Shared->Prop}
end
section
variable {X:Cx}{o e value:Expr}{f:Str}{pos pos' tpos:Pos}{ta tv:TE}
end
section
variable {X:Cx}{pins:List (Addr×Obj)}{σ:St}{H:Hp}{s:Shared}{A:Around}{E:Value->Shared->Prop}{Q:Value->Shared->Prop}{c:Value}{b:Bool}
inductive TyOf (K:W.Frag) (H:Hp) : V->Value->Prop where
 | non:TyOf K H .non (.type "NoneType")
 | bl (x:Bool) : TyOf K H (.bl x) (.type "bool")
 | int (i:Int) : TyOf K H (.int i) (.type "int")
 | str (x:Str) : TyOf K H (.str x) (.type "str")
 | flt (x:UInt64) : TyOf K H (.flt x) (.type "float")
 | lst {a:Addr} {xs:List V} (e:H a=some (.lst xs)) : TyOf K H (.ref a) (.type "list")
 | frz {a:Addr} {o:Obj} {xs:List V} (e:H a=some (.frz o (.lst xs))) : TyOf K H (.ref a) (.type "list")
 | tup {a:Addr} {xs:List V} (e:H a=some (.tup xs)) : TyOf K H (.ref a) (.type "tuple")
 | dK {a:Addr} {kvs:List (Key×V)} (e:H a=some (.dK kvs)) : TyOf K H (.ref a) (.type "dict")
 | dT {a:Addr} {kvs:List (List Key×V)} (e:H a=some (.dT kvs)) : TyOf K H (.ref a) (.type "dict")
 | ins {a C dx : Addr} {fs : List (Str × V)} (e : H a = some (.ins C dx fs)) (cl : Cls K C) (ha : W.findIn K (.ref C) "__class__" = some (some (.builtin "object.__class__")))
   (hn:W.specialIn K (.builtin "object.__class__") "__get__" = some (some (.builtin "getset_descriptor.__get__"))) (htk:W.takesIn K (.builtin "object.__class__")=some true)
   (hm:W.mroIn K C (.type "object")=some true) : TyOf K H (.ref a) (.ref C)
theorem zkh {x:V}{u t:Value}(I:Inv X pins σ H s)(rx:RelV x u)(ty:TyOf X.K H x t)(e:W.kitOne X.K t c=some b)(h:∀ tk,Q (.bool b) { s with toks:=tk }) :
  wpAny (model X.prog X.w) A (call (.builtin "isinstance") [u,c]) Q E s:=by
 cases ty with
 | non=>cases (show u=Value.none from rx);exact W.kia_one W.kitx_none I.kIn True.intro e (fun z=>nomatch z) h
 | bl y=>cases (show u=Value.bool y from rx);exact W.kia_one W.kitx_bool I.kIn True.intro e (fun z=>nomatch z) h
 | int i=>obtain ⟨t,q⟩:=(show ∃ t,u=Value.int i t from rx);cases q;exact W.kia_one W.kitx_int I.kIn True.intro e (fun z=>nomatch z) h
 | str y=>obtain ⟨t,q⟩:=(show ∃ t,u=Value.str y t from rx);cases q;exact W.kia_one W.kitx_str I.kIn True.intro e (fun z=>nomatch z) h
 | flt y=>obtain ⟨t,q⟩:=(show ∃ t,u=Value.float y t from rx);cases q;exact W.kia_one W.kitx_float I.kIn True.intro e (fun z=>nomatch z) h
 | @lst a xs ea =>
  cases (show u=Value.ref a from rx)
  obtain ⟨_,_,n,_,h1⟩:=(show ObjOk X.prog X.w H s.heap a (.lst xs) from I.hok a _ ea)
  exact W.kia_one W.kitx_list I.kIn ⟨_,h1,rfl⟩ e (fun z=>nomatch z) h
 | @frz a ob xs ea =>
  cases (show u=Value.ref a from rx)
  obtain ⟨_,_,_,n,_,h1⟩:=(show ObjOk X.prog X.w H s.heap a (.frz ob (.lst xs)) from I.hok a _ ea)
  exact W.kia_one W.kitx_list I.kIn ⟨_,h1,rfl⟩ e (fun z=>nomatch z) h
 | @tup a xs ea =>
  cases (show u=Value.ref a from rx)
  obtain ⟨_,_,_,p⟩:=(show ObjOk X.prog X.w H s.heap a (.tup xs) from I.hok a _ ea)
  obtain ⟨o,h1,h2,_⟩:=p
  exact W.kia_one W.kitx_tuple I.kIn ⟨o,h1,h2⟩ e (fun z=>nomatch z) h
 | @dK a kvs ea =>
  cases (show u=Value.ref a from rx)
  obtain ⟨_,_,vs,_,p⟩:=(show ObjOk X.prog X.w H s.heap a (.dK kvs) from I.hok a _ ea)
  obtain ⟨o,es,ep,h1,h2,_⟩:=p
  exact W.kia_one W.kitx_dict I.kIn ⟨o,h1,h2.1⟩ e (fun z=>nomatch z) h
 | @dT a kvs ea =>
  cases (show u=Value.ref a from rx)
  obtain ⟨_,_,xs,_,o,es,ep,h1,h2,_⟩:=(show ObjOk X.prog X.w H s.heap a (.dT kvs) from I.hok a _ ea)
  exact W.kia_one W.kitx_dict I.kIn ⟨o,h1,h2.1⟩ e (fun z=>nomatch z) h
 | @ins a C dx fs ea cl ha hn htk hm =>
  cases (show u=Value.ref a from rx)
  obtain ⟨mA,O,_⟩:=zfJ I.hok ea
  obtain ⟨od,J,_⟩:=O.look
  exact W.kia_one (W.kitx_own (cl.get _) cl.hd ha hn htk hm) I.kIn J e (fun z=>nomatch z) h
end
structure Room (k:Nat) (A:Around) : Prop where
 hd:A.handled=none
 dp:A.depth+3*k+5<recursionLimit
 un:A.units+16*k+200<cLine
theorem Room.mono {j k:Nat}{A:Around}(r:Room k A)(h:j<=k) : Room j A:=⟨r.hd,by have:=r.dp;omega,by have:=r.un;omega⟩
theorem Room.deeper {k:Nat}{A:Around}(r:Room (k+1) A)(env:Env) : Room k (A.deeper env) :=
 ⟨r.hd,by have:=r.dp;show A.depth+1+3*k+5 < _;omega,by have:=r.un;show A.units+3+16*k+200 < _;omega⟩
theorem Room.depth {k:Nat}{A:Around}(r:Room k A) : A.depth<recursionLimit:=by have:=r.dp;omega
theorem Room.units {k:Nat}{A:Around}(r:Room k A) : A.units+64<cLine:=by have:=r.un;omega
def tNil:TA:=fun _ H Q=>Q [] H
def zaf (ta:TE)(tr:TA) : TA:=fun σ H Q=>ta σ H fun x H1=>tr σ H1 fun xs H2=>Q (x::xs) H2
section
variable {X:Cx}{e:Expr}{es:List Expr}{te:TE}{t:TA}{pos:Pos}
theorem zlw:PA X [] tNil:=fun _ _ _ _ H Q I h=>Calls.spliced_nil ⟨[],H,I,.nil,h⟩
theorem zhj (ha:PE X e te)(hr:PA X es t)(hs:starEach (e::es) X.env=(false,eval e X.env)::starEach es X.env:=by rfl) : PA X (e::es) (zaf te t):=by
 intro pos pins s σ H Q I h
 rw [hs]
 show wpAny _ _ (spliced ((false,eval e X.env)::backTo pos (starEach es X.env))) _ _ s
 refine Calls.spliced_cons (thn (ha pins s σ H _ I h) fun u s1 ⟨x,H1,I1,r1,q1⟩=>?_)
 exact thn (hr pos pins s1 σ H1 _ I1 q1) fun us s2 ⟨xs,H2,I2,r2,q2⟩=>⟨x::xs,H2,I2,.cons r1 r2,q2⟩
def tTup (t:TA) : TE:=fun σ H Q=>t σ H fun xs H1=>xs.length<=sizeLine/\∀ p,H1 p=none->Q (.ref p) (upd H1 p (.tup xs))
def tLst (t:TA) : TE:=fun σ H Q=>t σ H fun xs H1=>xs.length<=sizeLine/\∀ p,H1 p=none->Q (.ref p) (upd H1 p (.lst xs))
theorem zmW {x1}(h:PA X es t) : PE X (.Tuple es x1 pos) (tTup t):=by
 intro pins s σ H Q I hq
 refine wpAny_Tuple_spliced (thn (h pos pins s σ H _ I hq) fun us s1 ⟨xs,H1,I1,r,z,q⟩=>⟨by rw [<- r.length];exact z,?_⟩)
 have hf:H1 s1.heap.objs.size=none:=I1.hok.fresh (Nat.le_refl _)
 refine ⟨.ref s1.heap.objs.size,upd H1 s1.heap.objs.size (.tup xs),I1.laid (t':=s1.toks) (fun b u e=>Heap.get?_push_of_some _ e) (Nat.le_refl _) ?_,rfl,q _ hf⟩
 exact ⟨z,us,r,⟨_,Heap.get?_push_size _ rfl,rfl,_,rfl⟩⟩
theorem znN (h:PA X es t) : PE X (.List es pos) (tLst t):=by
 intro pins s σ H Q I hq
 refine wpAny_List_spliced (thn (h pos pins s σ H _ I hq) fun us s1 ⟨xs,H1,I1,r,z,q⟩=>⟨by rw [<- r.length];exact z,?_⟩)
 have hf:H1 s1.heap.objs.size=none:=I1.hok.fresh (Nat.le_refl _)
 refine ⟨.ref s1.heap.objs.size,upd H1 s1.heap.objs.size (.lst xs),I1.laid (t':=s1.toks) (fun b u e=>Heap.get?_push_of_some _ e) (Nat.le_refl _) ?_,rfl,q _ hf⟩
 exact ⟨z,us,0,r,Heap.get?_push_size _ rfl⟩
end
abbrev Sp:=List V->Hp->VK->XK->Prop
abbrev CXT:=List Env->Hp->Shared->XK->Value->Shared->Prop
structure Env0 (P:Program) (w:World) (K:W.Frag) (mg:Str->Option Value) (base:Heap) (A:Around) (outer:List Env) (s:Shared) (H:Hp) : Prop where
 frames:A.frames=some outer
 mod:Mod K mg base
 bs:∀ b o,base.get? b=some o->s.heap.get? b=some o/\H b=none
 bsz:base.objs.size<=s.heap.objs.size
 funs:s.heap.FunFrames base outer
 frf:∀ b∈frs outer,H b=none
 hok:HOk P w H s.heap
 bare:AllBare s.gens
def CE (outer:List Env)(P:Program)(w:World)(H:Hp)(s:Shared)(Q:VK)(u:Value)(s':Shared) : Prop :=
 ∃ v H',s'.os=s.os/\AllBare s'.gens/\Un (frs outer) [] H H' s.heap s'.heap/\HOk P w H' s'.heap/\RelV v u/\Q v H'
def CR (CX:CXT)(outer:List Env)(P:Program)(w:World)(H:Hp)(s:Shared)(Q:VK)(E:XK)(r:Result)(s':Shared) : Prop :=
 match r with
 | .ok (.ret u)=>CE outer P w H s Q u s'
 | .ok _=>False
 | .error e=>CX outer H s E e s'
structure FnOk (P:Program) (w:World) (K:W.Frag) (mg:Str->Option Value) (base:Heap) (CX:CXT) (k:Nat) (f:Addr) (fd:FuncData) (ps:List Str) (sp:Sp) : Prop where
 len:∀ vs H Q E,sp vs H Q E->vs.length=ps.length
 run:∀ (A:Around) (outer:List Env) (s:Shared) (H:Hp) (args:Args) (us:List Value) (vs:List V) (Q:VK) (E:XK),Room k A->Env0 P w K mg base A outer s H->BindsTo s fd args (ps.zip us)->Vals vs us->sp vs H Q E ->
  codeAny (model P w) A (.call (.ref f) args) (CR CX outer P w H s Q E) s
section
variable {X:Cx}{pins:List (Addr×Obj)}{σ:St}{H:Hp}{s s':Shared}
theorem Inv.env0 (I:Inv X pins σ H s) : Env0 X.prog X.w X.K X.mg X.base X.A X.stack s H :=
 ⟨I.ok.frames,I.ok.mod,I.bs,Nat.le_trans I.ok.bsz I.sz,I.stack,I.stkFree,I.hok,I.bare⟩
theorem Inv.after {Q:VK}{u:Value}(I:Inv X pins σ H s)(h:CE X.stack X.prog X.w H s Q u s') : EP X pins σ Q u s':=by
 obtain ⟨v,H',os,bare,un,hok,r,q⟩:=h
 obtain ⟨hh,g,d,t,os'⟩:=s'
 obtain rfl:os'=s.os:=os
 exact ⟨v,H',I.call (h':=hh) (g':=g) (d':=d) (t':=t) (ch:=[]) un hok bare (fun b z=>absurd z (by simp)),r,q⟩
end
def zbp (sp:Sp)(dvs:List V)(E:XK)(t:TA) : TE:=fun σ H Q=>t σ H fun vs H1=>sp (vs++dvs) H1 Q E
def Binds (K:W.Frag)(fd:FuncData)(ps:List Str)(ds:List Value) : Prop :=
 ∀ (s:Shared) (us:List Value),K.In s.heap->(us++ds).length=ps.length->BindsTo s fd ⟨us,[]⟩ (ps.zip (us++ds))
theorem Binds.all {K:W.Frag}{fd:FuncData}{ps:List Str}(h:∀ us:List Value,us.length=ps.length->bindArgs fd ⟨us,[]⟩=pure (ps.zip us)) : Binds K fd ps []:=fun s us _ hl=>by
 rw [List.append_nil] at hl ⊢
 exact .of_eq (h us hl)
def Passes (CX:CXT)(X:Cx)(E:XK) : Prop:=∀ (pins:List (Addr×Obj)) (σ:St) (H:Hp) (s:Shared) (e:Value) (s':Shared),Inv X pins σ H s->CX X.stack H s E e s'->X.xe e s'
section
variable {X:Cx}{CX:CXT}{k:Nat}{f C:Addr}{fd:FuncData}{ps:List Str}{sp:Sp}{dvs:List V}{ds:List Value}{E:XK}{x m:Str}{p pos apos:Pos}{e o:Expr}{es:List Expr}{ta:TE}{t:TA}
theorem znA {pins:List (Addr×Obj)}{σ:St}{H:Hp}{s:Shared}{Q:VK}{us:List Value}{vs:List V}(F:FnOk X.prog X.w X.K X.mg X.base CX k f fd ps sp)(hr:Room k X.A)(hb:Binds X.K fd ps ds)(hd:Vals dvs ds)(hx:Passes CX X E)
  (I:Inv X pins σ H s) (r:Vals vs us) (h:sp (vs++dvs) H Q E) : wpAny (model X.prog X.w) X.A (call (.ref f) us) (EP X pins σ Q) X.xe s:=by
 have r2:Vals (vs++dvs) (us++ds):=r.append hd
 have hl:(us++ds).length=ps.length:=by rw [<- r2.length];exact F.len _ _ _ _ h
 refine wpAny_call (codeAny_mono (F.run X.A X.stack s H ⟨us,[]⟩ (us++ds) (vs++dvs) Q E hr I.env0 (hb s us I.kIn hl) r2 h) fun r s' hq=>?_)
 cases r with
 | error e=>exact hx pins σ H s e s' I hq
 | ok fl =>
  cases fl with
  | ret u=>exact I.after hq
  | next=>exact False.elim hq
  | brk=>exact False.elim hq
  | cont=>exact False.elim hq
theorem zl1 (F:FnOk X.prog X.w X.K X.mg X.base CX k f fd ps sp)(hr:Room k X.A)(hg:Gl X x)(hm:X.mg x=some (.ref f))(hk:W.keepIn X.K (.ref f)=true)(hb:Binds X.K fd ps ds)(hd:Vals dvs ds)(hx:Passes CX X E)
  (ha:PA X (e::es) t) (hdb:(x == ("__debug__" : Str))=false:=by decide) (he:starEach (e::es) X.env=(false,eval e X.env)::starEach es X.env:=by rfl) (hpl:(backTo pos (starEach es X.env)).any (·.1)=false:=by rfl) :
  PE X (.Call (.Name x p) (e::es) [] pos) (zbp sp dvs E t):=by
 intro pins s σ H Q I h
 refine wpAny_Call_Name_kw (zlH I hg hm ?_ hdb)
 refine W.callWith_K (h₀:=X.base) I.ok.mod.kin hk (thn (ha pos pins s σ H _ I h) fun us s1 ⟨vs,H1,I1,r,q⟩=>⟨I1.kIn,?_⟩) he hpl
 exact znA F hr hb hd hx I1 r q
end
section
variable {X:Cx}{CX:CXT}{k:Nat}{f C:Addr}{fd:FuncData}{ps ks:List Str}{sp:Sp}{E:XK}{x m:Str}{p pos apos kpos:Pos}{e o:Expr}{es:List Expr}{kws:List Keyword}{te ta:TE}{t tk:TA}{nm:Option Str}
variable {g:List Value->List Value->List Value}{gV:List V->List V->List V}
end
structure FnScope (N P:List Str) (sc:Scope) : Prop where
 kind:sc.kind=.function
 co:sc.isCoroutine=false
 gen:sc.isGenerator=false
 nd:N.Nodup
 pre:N.take P.length=P
 par:∀ x∈P,sc.names.lookup x=some .local\/sc.names.lookup x=some .cell
 nofree:∀ y∈sc.names,y.2≠.free
theorem zgA {kindOf:Str->Option NameKind}{x:Str} : ∀ {binds:List (Str×Value)} {m:Str->Option Value},(∀ v,(x,v)∉binds)->bindL kindOf binds m x=m x
 | [],_,_=>rfl
 | (n, v) :: r, m, h => by
  unfold bindL
  rw [zgA fun w hw=>h w (List.mem_cons_of_mem _ hw)]
  split
  ·have:x≠n:=by rintro rfl;exact h v List.mem_cons_self
   simp [this]
  ·rfl
theorem zfV {kindOf:Str->Option NameKind}{x:Str} : ∀ {binds:List (Str×Value)} {m:Str->Option Value},(∀ v,(x,v)∉binds)->bindC kindOf binds m x=m x
 | [],_,_=>rfl
 | (n, v) :: r, m, h => by
  unfold bindC
  rw [zfV fun w hw=>h w (List.mem_cons_of_mem _ hw)]
  split
  ·rfl
  ·have:x≠n:=by rintro rfl;exact h v List.mem_cons_self
   simp [this]
theorem zfX {kindOf:Str->Option NameKind}{x:Str}{v:Value} : ∀ {P:List Str} {vs:List Value} {i:Nat} {m:Str->Option Value},P.Nodup->P[i]?=some x->vs[i]?=some v->kindOf x=some .local ->
  bindL kindOf (P.zip vs) m x=some v
 | [],_,_,_,_,h,_,_=>by simp at h
 | _::_,[],_,_,_,_,h,_=>by simp at h
 | p::P,w::vs,0,m,nd,h1,h2,hk=>by
  simp at h1 h2;subst h1;subst h2
  show bindL kindOf ((p,w)::P.zip vs) m p=_
  unfold bindL
  rw [zgA fun v hv=>(List.nodup_cons.mp nd).1 (List.of_mem_zip hv).1,if_pos hk]
  simp
 | p::P,w::vs,i+1,m,nd,h1,h2,hk=>by
  show bindL kindOf ((p,w)::P.zip vs) m x=_
  unfold bindL
  exact zfX (i:=i) (List.nodup_cons.mp nd).2 (by simpa using h1) (by simpa using h2) hk
theorem zgq {kindOf:Str->Option NameKind}{x:Str}{v:Value} : ∀ {P:List Str} {vs:List Value} {i:Nat} {m:Str->Option Value},P.Nodup->P[i]?=some x->vs[i]?=some v->kindOf x≠some .local ->
  bindC kindOf (P.zip vs) m x=some v
 | [],_,_,_,_,h,_,_=>by simp at h
 | _::_,[],_,_,_,_,h,_=>by simp at h
 | p::P,w::vs,0,m,nd,h1,h2,hk=>by
  simp at h1 h2;subst h1;subst h2
  show bindC kindOf ((p,w)::P.zip vs) m p=_
  unfold bindC
  rw [zfV fun v hv=>(List.nodup_cons.mp nd).1 (List.of_mem_zip hv).1,if_neg hk]
  simp
 | p::P,w::vs,i+1,m,nd,h1,h2,hk=>by
  show bindC kindOf ((p,w)::P.zip vs) m x=_
  unfold bindC
  exact zgq (i:=i) (List.nodup_cons.mp nd).2 (by simpa using h1) (by simpa using h2) hk
def start (N:List Str)(vs:List V) : St:=vs.map some++List.replicate (N.length-vs.length) none
def cxOf (CX:CXT)(P:Program)(w:World)(K:W.Frag)(mg:Str->Option Value)(base:Heap)(N:List Str)(qual:Str)(scope:Scope)(f:Addr)(cd:Value)(A:Around)(outer:List Env)(s:Shared)(H:Hp)(E:XK) : Cx where
 prog:=P
 w:=w
 K:=K
 mg:=mg
 base:=base
 A:=A.deeper (envOfC qual scope s.heap.objs.size f cd)
 N:=N
 s₀:=s
 H₀:=H
 env:=envOfC qual scope s.heap.objs.size f cd
 outer:=outer
 stack:=envOfC qual scope s.heap.objs.size f cd::outer
 ex:=[]
 calm:=true
 fn:=fun _=>true
 pn:=[]
 xe:=fun e s'=>wpAny (model P w) (A.deeper (envOfC qual scope s.heap.objs.size f cd)) (leaving (envOfC qual scope s.heap.objs.size f cd) e) (fun _ s''=>CX outer H s E e s'') (fun e' s''=>CX outer H s E e' s'') s'
theorem zhR {sc:Scope}{n:Nat}{x:Str}(h:sc.names.lookup x=some .cell) : ∃ c,(cellsFrom n sc.names []).lookup x=some c:=by
 have q:=W.cellsFrom_some sc.names n [] (.inl h)
 exact Option.isSome_iff_exists.mp q
theorem ziY {CX:CXT}{P:Program}{w:World}{K:W.Frag}{mg:Str->Option Value}{base:Heap}{N ps:List Str}{qual:Str}{scope:Scope}{f:Addr}{cd:Value}{A:Around}{outer:List Env}{s s1:Shared}{H:Hp}{E:XK}{us:List Value}{vs:List V}
  (S:FnScope N ps scope) (hd:A.handled=none) (e0:Env0 P w K mg base A outer s H) (hl:vs.length=ps.length) (r:Vals vs us)
  (x:InCallC s s.heap.objs.size (bindL (envOfC qual scope s.heap.objs.size f cd).kindOf (ps.zip us) fun _=>none) (cellsFrom (s.heap.objs.size+1) scope.names []) (bindC (envOfC qual scope s.heap.objs.size f cd).kindOf (ps.zip us) fun _=>none) s1) :
  Inv (cxOf CX P w K mg base N qual scope f cd A outer s H E) [] (start N vs) H s1:=by
 have hpl:ps.length<=N.length:=by have:=congrArg List.length S.pre;rw [List.length_take] at this;omega
 obtain ⟨h1,tk,rfl,hk⟩:=x.done
 have noA:∀ b:Addr,b∉(cxOf CX P w K mg base N qual scope f cd A outer s H E).ex:=fun b z=>absurd (show b∈([] : List Addr) from z) (by simp)
 refine ⟨⟨e0.mod,S.kind,rfl,rfl,Nat.le_refl _,fun y z c h1 h2=>?_,fun y hy=>?_,fun y c _ h=>?_,fun _=>hd,Around.frames_deeper e0.frames,.inr ⟨rfl,rfl⟩,fun b z=>absurd z (noA b),e0.bs,e0.bsz,fun b _ _=>noA b,fun b z=>absurd z (noA b),e0.funs,e0.frf⟩,
  rfl,e0.bare,Un.kept hk,⟨_,x.toInCall.ns,fun i y v h1 h2 h3=>?_⟩,fun y c h=>⟨_,x.cell y c h⟩,e0.hok.fresh (Nat.le_refl _),fun y c h=>?_,fun p hp=>absurd (show p∈([] : List (Addr×Obj)) from hp) (by simp),e0.hok.kept hk,?_⟩
 ·exact name_of_addr x.apart (PySem.mem_of_lookup h1) (PySem.mem_of_lookup h2)
 ·have hy:scope.names.lookup y=some .cell\/scope.names.lookup y=some .free:=hy
  rcases hy with hy | hy
  ·exact zhR hy
  ·exact absurd rfl (S.nofree _ (PySem.mem_of_lookup hy))
 ·exact Nat.le_of_lt (x.above y c (PySem.mem_of_lookup h))
 ·have hi:i<vs.length:=by
   unfold start at h2
   by_cases hi:i<vs.length
   ·exact hi
   ·rw [List.getElem?_append_right (by simpa using hi)] at h2
    rw [List.getElem?_replicate] at h2
    split at h2<;>cases h2
  have ha:vs[i]?=some v:=by
   unfold start at h2
   rw [List.getElem?_append_left (by simpa using hi),List.getElem?_map] at h2
   cases e:vs[i]? with
   | none=>rw [e] at h2;cases h2
   | some a=>rw [e] at h2;cases h2;rfl
  obtain ⟨u,hu,rv⟩:=r.get ha
  have hp:ps[i]?=some y:=by
   rw [<- S.pre,List.getElem?_take_of_lt (by omega)];exact h1
  have ndP:ps.Nodup:=by rw [<- S.pre];exact S.nd.sublist (List.take_sublist _ _)
  refine ⟨u,rv,?_⟩
  rcases S.par y (List.mem_of_getElem? hp) with k | k
  ·exact .inl ⟨k,zfX ndP hp hu k⟩
  ·obtain ⟨c,e⟩:=zhR (n:=s.heap.objs.size+1) k
   refine .inr ⟨.inl k,c,e,?_⟩
   have q:=x.cell y c e
   rw [zgq ndP hp hu (by show scope.names.lookup y≠_;rw [k];decide)] at q
   exact q
 ·exact e0.hok.fresh (Nat.le_of_lt (x.above y c (PySem.mem_of_lookup h)))
 ·unfold start
  show _=N.length
  rw [List.length_append,List.length_map,List.length_replicate]
  omega
theorem zog {CX:CXT}{P:Program}{w:World}{K:W.Frag}{mg:Str->Option Value}{base:Heap}{k:Nat}{f:Addr}{name qual:Str}{params:Arguments}{body:List Stmt}{scope:Scope}{dV kV doc pm cdv ct oc:Value}{an od:Option Addr}
  {osl:Array (Option Value)} {N ps:List Str} {sp:Sp} (lk:K.lookup f=some ⟨oc,od,.func (W.fnOf name qual params body scope dV kV doc pm an cdv ct),osl⟩) (hcd:W.codeIn K cdv qual=true) (S:FnScope N ps scope)
  (len:∀ vs H Q E,sp vs H Q E->vs.length=ps.length)
  (hbody:∀ (A:Around) (outer:List Env) (s:Shared) (H:Hp) (vs:List V) (Q:VK) (E:XK),Room k (A.deeper (envOfC qual scope s.heap.objs.size f cdv))->sp vs H Q E ->
   ∃ t,PSs (cxOf CX P w K mg base N qual scope f cdv A outer s H E) body t/\t { nx:=fun _ H'=>Q .non H',rt:=Q } (start N vs) H) :
  FnOk P w K mg base CX (k+1) f (W.fnOf name qual params body scope dV kV doc pm an cdv ct) ps sp:=by
 refine ⟨len,fun A outer s H args us vs Q E hr e0 hb r hsp=>?_⟩
 have hl:=len _ _ _ _ hsp
 have KX:K.In s.heap:=e0.mod.kin.keeps fun b o e=>(e0.bs b o e).1
 have lim:s.heap.NoLimit:=e0.mod.nolimit.keeps fun b o e=>(e0.bs b o e).1
 have hkind:∀ y∈ps.zip us,scope.names.lookup y.1=some .local\/(scope.names.lookup y.1=some .cell/\((cellsFrom (s.heap.objs.size+1) scope.names []).lookup y.1).isSome=true):=fun ⟨n,v⟩ hy=>by
  rcases S.par n (List.of_mem_zip hy).1 with q | q
  ·exact .inl q
  ·exact .inr ⟨q,W.cellsFrom_some _ _ _ (.inl q)⟩
 refine codeAny_call_function hr.depth (KX _ _ lk) rfl S.co S.gen rfl (W.codeRec_of KX hcd) (hb _ _ _ _ ?_)
 refine wpAny_newFunctionEnv_cells S.kind hkind fun env he s1 x=>?_
 subst he
 refine ⟨lim.keeps x.toInCall.keep,codeAny_func ?_⟩
 obtain ⟨t,ht,hq⟩:=hbody A outer s H vs Q E (hr.deeper _) hsp
 have I:Inv (cxOf CX P w K mg base N qual scope f cdv A outer s H E) [] (start N vs) H s1:=ziY S hr.hd e0 hl r x
 refine wpAny_mono (ht [] s1 (start N vs) H _ I hq) (fun fl s' hs=>?_) fun e s' hs=>hs
 have fin:∀ {σ':St} {H':Hp} {v:V} {u:Value},Inv (cxOf CX P w K mg base N qual scope f cdv A outer s H E) [] σ' H' s'->RelV v u->Q v H'->CE outer P w H s Q u s' :=
  fun {σ' H' v u} J rv q=>⟨v,H',J.os,J.bare,J.base,J.hok,rv,q⟩
 cases fl with
 | ret u =>
  obtain ⟨v,σ',H',J,rv,q⟩:=hs
  exact fin J rv q
 | next =>
  obtain ⟨σ',H',J,q⟩:=hs
  exact fin (v:=V.non) (u:=Value.none) J rfl q
 | brk =>
  obtain ⟨_,_,_,q⟩:=hs
  exact False.elim q
 | cont =>
  obtain ⟨_,_,_,q⟩:=hs
  exact False.elim q
section
variable {X:Cx}{x:Str}{p pos:Pos}{e:Expr}{es:List Expr}{t:TA}{id T:String}{r:List V->Hp->VK->Prop}
def tCB (r:List V->Hp->VK->Prop)(t:TA) : TE:=fun σ H Q=>t σ H fun vs H1=>r vs H1 Q
theorem zkT (hc:zb4 X (.builtin id) r)(hg:Gl X x)(hm:X.mg x=none)(hv:bootBuiltins x=some (.builtin id))(ha:PA X (e::es) t)(hn:x ≠ "__name__" := by decide)(hdb:(x == ("__debug__" : Str))=false:=by decide)
  (he:starEach (e::es) X.env=(false,eval e X.env)::starEach es X.env:=by rfl) (hpl:(backTo pos (starEach es X.env)).any (·.1)=false:=by rfl) : PE X (.Call (.Name x p) (e::es) [] pos) (tCB r t):=by
 intro pins s σ H Q I h
 refine wpAny_Call_Name_kw (zhZ I hg hm hv ?_ hn hdb)
 exact PyProof.Rows.callWith_builtin1 (thn (ha pos pins s σ H _ I h) fun us s1 ⟨vs,H1,I1,r1,q1⟩=>hc pins s1 σ H1 vs us Q I1 r1 q1) he hpl
theorem ziS (hc:zb4 X (.type T) r)(hg:Gl X x)(hm:X.mg x=none)(hv:bootBuiltins x=some (.type T))(ha:PA X (e::es) t)(hn:x ≠ "__name__" := by decide)(hdb:(x == ("__debug__" : Str))=false:=by decide)
  (he:starEach (e::es) X.env=(false,eval e X.env)::starEach es X.env:=by rfl) (hpl:(backTo pos (starEach es X.env)).any (·.1)=false:=by rfl) : PE X (.Call (.Name x p) (e::es) [] pos) (tCB r t):=by
 intro pins s σ H Q I h
 refine wpAny_Call_Name_kw (zhZ I hg hm hv ?_ hn hdb)
 exact PyProof.Rows.callWith_type1 (thn (ha pos pins s σ H _ I h) fun us s1 ⟨vs,H1,I1,r1,q1⟩=>hc pins s1 σ H1 vs us Q I1 r1 q1) he hpl
end
end L2
namespace HT
open PySem PyProof.Rows
section
open PySem.SeqAt
open PySem.AutoSeq1 (wpAny_loadPart')
open PySem.MeetsSeq PySem.MeetsSeq2 PySem.MeetsSeq3
end
section
variable {prog:Program}{w:World}{A:Around}{E:Value->Shared->Prop}{s:Shared}
theorem cat_tup {t b:Addr}{vs ws:List Value}{Q:Value->Shared->Prop}(ht:IsTup s.heap t vs.toArray)(hb:IsTup s.heap b ws.toArray)(hv:vs≠[])
  (h1:ws=[]->Q (.ref t) s) (h2:ws≠[]->Q (.ref s.heap.objs.size) { s with heap:=s.heap.push { cls:=.type "tuple", data:=.seq (vs++ws).toArray } })
  (hsz:vs.length+ws.length<=sizeLine) : wpAny (model prog w) A (binaryOp .Add (.ref t) (.ref b)) Q E s:=by
 obtain ⟨⟨cls,dd,data,sl⟩,ho,hc,n,hd⟩:=id ht
 obtain ⟨⟨cls2,dd2,data2,sl2⟩,ho2,hc2,n2,hd2⟩:=id hb
 simp only at hc hd hc2 hd2
 subst hc hd hc2 hd2
 have e:vs.toArray++ws.toArray=(vs++ws).toArray:=by simp
 by_cases hw:ws=[]
 ·exact concat_meets ⟨_,ho,rfl⟩ ⟨_,ho2,rfl⟩ noFill_tuple_add seq_tuple_add PySem.F.slot_tuple_add PySem.F.entry_tuple_add (PySem.F.args_tuple_add_2 _ _)
   (tuple_addW1 t b vs.toArray ws.toArray n n2 dd dd2 sl sl2 (by simpa using hv) (by simp [hw])) ⟨ho,ho2,h1 hw⟩
 ·refine concat_meets ⟨_,ho,rfl⟩ ⟨_,ho2,rfl⟩ noFill_tuple_add seq_tuple_add PySem.F.slot_tuple_add PySem.F.entry_tuple_add (PySem.F.args_tuple_add_2 _ _)
   (tuple_addW2 t b vs.toArray ws.toArray n n2 dd dd2 sl sl2 (by simpa using hv) (by simpa using hw) (by rw [List.size_toArray,List.size_toArray];exact hsz)) ⟨ho,ho2,?_⟩
  rw [e]
  exact h2 hw
def sIx (n d:Nat) : Option Int->Nat
 | none=>d
 | some v=>if v<0 then (v+(n:Int)).toNat else min v.toNat n
theorem sIx_nat (n d k:Nat) : sIx n d (some (k:Int))=min k n:=by
 show (if (k:Int)<0 then ((k:Int)+(n:Int)).toNat else min (k:Int).toNat n)=min k n
 rw [if_neg (by omega),Int.toNat_natCast]
end
end HT
namespace L2
open PySem PySem.Spec PyProof.Rows
abbrev TO:=St->Hp->(Option Int->Hp->Prop)->Prop
def PO (X:Cx)(e:Option Expr)(t:TO) : Prop :=
 ∀ (pins:List (Addr×Obj)) (s:Shared) (σ:St) (H:Hp) (Q:Option Int->Hp->Prop),Inv X pins σ H s->t σ H Q ->
  wpAny (model X.prog X.w) X.A (evalPart e X.env) (fun u s'=>∃ o H',Inv X pins σ H' s'/\IsPart u o/\Q o H') X.xe s
def zdr:TO:=fun _ H Q=>Q none H
def zf7 (t:TE) : TO:=fun σ H Q=>t σ H fun x H1=>∃ i,x=.int i/\Q (some i) H1
theorem intsAre_of {ns:List Int} : ∀ {us:List Value},Vals (ns.map V.int) us->IntsAre us ns:=by
 induction ns with
 | nil=>intro us r;rw [List.map_nil] at r;cases r;exact .nil
 | cons n ns ih =>
  intro us r
  rw [List.map_cons] at r
  cases r with
  | cons r1 r2 =>
   obtain ⟨t,e⟩:=r1
   subst e
   exact .cons n t (ih r2)
section
variable {X:Cx}{e:Expr}{te:TE}{lo hi:Option Expr}{tl th:TO}{pos p2:Pos}
theorem zgQ:PO X none zdr:=by
 intro pins s σ H Q I h
 rw [evalPart_none]
 exact wpAny_pure ⟨none,H,I,.none,h⟩
theorem zee (h:PE X e te) : PO X (some e) (zf7 te):=by
 intro pins s σ H Q I hw
 rw [evalPart_some]
 refine thn (h pins s σ H _ I hw) fun u s1 ⟨x,H1,I1,r1,q1⟩=>?_
 obtain ⟨i,rfl,q⟩:=q1
 obtain ⟨t,rfl⟩:=r1
 exact ⟨some i,H1,I1,.int i t,q⟩
def SlR (X:Cx)(r:V->Option Int->Option Int->Hp->VK->Prop) : Prop :=
 ∀ (pins:List (Addr×Obj)) (s:Shared) (σ:St) (H:Hp) (x:V) (v vl vu:Value) (lo hi:Option Int) (sl:Addr) (Q:VK),Inv X pins σ H s->RelV x v->s.heap.IsSliceOf sl vl vu .none->IsPart vl lo->IsPart vu hi->r x lo hi H Q ->
  ∃ T id,typeLookup (.type T) "__getitem__" = pure (some (.builtin id))/\s.TypeIs v T/\wpAny (model X.prog X.w) X.A (getItem v (.ref sl)) (EP X pins σ Q) X.xe s
def tSl (r:V->Option Int->Option Int->Hp->VK->Prop)(te:TE)(tl th:TO) : TE:=fun σ H Q=>te σ H fun x H1=>tl σ H1 fun l H2=>th σ H2 fun u H3=>r x l u H3 Q
theorem zdU {r:V->Option Int->Option Int->Hp->VK->Prop}(hr:SlR X r)(he:PE X e te)(hl:PO X lo tl)(hu:PO X hi th) : PE X (.Subscript e (.Slice lo hi none p2) pos) (tSl r te tl th):=by
 intro pins s σ H Q I h
 refine Subscript_ (thn (he pins s σ H _ I h) fun v s1 ⟨x,H1,I1,r1,q1⟩=>?_)
 refine wpAny_Slice (thn (hl pins s1 σ H1 _ I1 q1) fun vl s2 ⟨l,H2,I2,pl,q2⟩=>thn (hu pins s2 σ H2 _ I2 q2) fun vu s3 ⟨u,H3,I3,pu,q3⟩=>?_)
 rw [evalPart_none]
 refine wpAny_pure ?_
 have I4:Inv X pins σ H3 { s3 with heap:=s3.heap.push { cls:=.type "slice", data:=.fields #[vl,vu,.none] } }:=I3.kept (t':=s3.toks) fun b ob q=>Heap.get?_push_of_some _ q
 obtain ⟨T,id,hT,ht,hg⟩:=hr pins { s3 with heap:=s3.heap.push { cls:=.type "slice", data:=.fields #[vl,vu,.none] } } σ H3 x v vl vu l u s3.heap.objs.size Q I4 r1 (Heap.IsSliceOf.new ..) pl pu q3
 show wpAny (model X.prog X.w) X.A (subscriptTail e (.Slice lo hi none p2) v (.ref s3.heap.objs.size)) (EP X pins σ Q) X.xe { s3 with heap:=s3.heap.push { cls:=.type "slice", data:=.fields #[vl,vu,.none] } }
 exact tail_any (ops:=[.ref s3.heap.objs.size,v]) ht hT hg (by with_unfolding_all rfl)
def cutV (xs:List V)(lo hi:Option Int) : List V:=(xs.drop (HT.sIx xs.length 0 lo)).take (HT.sIx xs.length xs.length hi-HT.sIx xs.length 0 lo)
theorem zgZ (xs:List V)(lo hi:Option Int) : (cutV xs lo hi).length<=xs.length:=by
 unfold cutV
 rw [List.length_take,List.length_drop]
 omega
def zn3 (K:W.Frag) : R2:=fun x y H Q=>∃ a b xs ys,x=.ref a/\y=.ref b/\SqT K H a xs/\SqT K H b ys/\xs≠[]/\xs.length+ys.length<=sizeLine /\
 (ys=[]->Q (.ref a) H)/\(ys≠[]->∀ p,H p=none->Q (.ref p) (upd H p (.tup (xs++ys))))
theorem Vals.nil_iff {xs:List V}{us:List Value}(r:Vals xs us) : us=[]↔xs=[]:=by
 cases r with
 | nil=>simp
 | cons _ _=>simp
theorem zmc:OpR X (binaryOp .Add) (zn3 X.K):=by
 intro pins s σ H x y v u Q I rx ry h
 obtain ⟨a,b,xs,ys,rfl,rfl,ha,hb,hx,hz,q1,q2⟩:=h
 cases rx
 cases ry
 obtain ⟨its,r1,p1,_⟩:=I.tuple ha
 obtain ⟨its2,r2,p2,_⟩:=I.tuple hb
 refine HT.cat_tup p1 p2 (fun z=>hx (r1.nil_iff.mp z)) (fun z=>⟨.ref a,H,I,rfl,q1 (r2.nil_iff.mp z)⟩) (fun z=>?_) (by rw [<- r1.length,<- r2.length];exact hz)
 refine ⟨.ref s.heap.objs.size,_,I.laid (t':=s.toks) (o:=.tup (xs++ys)) (fun b ob q=>Heap.get?_push_of_some _ q) (Nat.le_refl _) ?_,rfl,q2 (fun w=>z (r2.nil_iff.mpr w)) _ (I.hok.fresh (Nat.le_refl _))⟩
 exact ⟨by rw [List.length_append];exact hz,_,r1.append r2,IsTup.new _ _⟩
end
def ixN (n:Nat)(i:Int) : Option Nat:=if 0<=i then (if i<n then some i.toNat else none) else if -(n:Int)<=i then some (i+n).toNat else none
def atI {α:Type}(xs:List α)(i:Int) : Option α:=(ixN xs.length i).bind fun j=>xs[j]?
theorem zl8 {n:Nat}{i:Int}{j:Nat}(h:ixN n i=some j) : seqIndex? i n=some j/\j<n /\ -(n:Int)<=i/\i<n:=by
 unfold ixN at h
 by_cases h0:0<=i
 ·rw [if_pos h0] at h
  by_cases h1:i<n
  ·rw [if_pos h1] at h
   have e:i.toNat=j:=Option.some.inj h
   exact ⟨by rw [seqIndex_of h0 h1,e],by omega,by omega,h1⟩
  ·rw [if_neg h1] at h;cases h
 ·rw [if_neg h0] at h
  by_cases h1 : -(n:Int)<=i
  ·rw [if_pos h1] at h
   have e:(i+n).toNat=j:=Option.some.inj h
   exact ⟨by rw [seqIndex_neg (by omega) h1,e],by omega,h1,by omega⟩
  ·rw [if_neg h1] at h;cases h
theorem zhd {α:Type}{xs:List α}{i:Int}{v:α}(h:atI xs i=some v) : ∃ j,seqIndex? i xs.length=some j/\xs[j]?=some v/\j<xs.length /\ -(xs.length:Int)<=i/\i<xs.length:=by
 unfold atI at h
 cases e:ixN xs.length i with
 | none=>rw [e] at h;cases h
 | some j =>
  rw [e] at h
  obtain ⟨h1,h2,h3,h4⟩:=zl8 e
  exact ⟨j,h1,h,h2,h3,h4⟩
theorem za1 {α:Type}{xs:List α}{j:Nat}{v:α}(h:xs[j]?=some v) : atI xs (j:Int)=some v:=by
 have hj:j<xs.length:=(List.getElem?_eq_some_iff.mp h).1
 have e:ixN xs.length (j:Int)=some j:=by
  unfold ixN
  rw [if_pos (by omega),if_pos (by omega)];simp
 unfold atI;rw [e];exact h
theorem zhI {α:Type}(xs:List α)(v:α) : atI (xs++[v]) (-1)=some v:=by
 have hl:(xs++[v]).length=xs.length+1:=by simp
 have e:ixN (xs++[v]).length (-1)=some xs.length:=by
  unfold ixN
  rw [hl,if_neg (by decide),if_pos (by omega)]
  congr 1
  omega
 unfold atI
 rw [e]
 show (xs++[v])[xs.length]?=some v
 simp
def zmB (b:Expr) : Prop:=∀ o i,subscripted b false o i=operate [o,i] (getItem o i)
def IxR (X:Cx)(r:R2) : Prop :=
 ∀ (value slice:Expr) (pins:List (Addr×Obj)) (s:Shared) (σ:St) (H:Hp) (x y:V) (v u:Value) (Q:VK),Inv X pins σ H s->RelV x v->RelV y u->r x y H Q ->
  subscripted slice false v u=operate [v,u] (getItem v u)->wpAny (model X.prog X.w) X.A (subscriptTail value slice v u) (EP X pins σ Q) X.xe s
def MtR (X:Cx)(id:String)(r:V->List V->Hp->VK->Prop) : Prop :=
 ∀ (pins:List (Addr×Obj)) (s:Shared) (σ:St) (H:Hp) (x:V) (xs:List V) (v:Value) (us:List Value) (Q:VK),Inv X pins σ H s->RelV x v->Vals xs us->r x xs H Q ->
  wpAny (model X.prog X.w) X.A (call (.builtin id) (v::us)) (EP X pins σ Q) X.xe s
section
variable {X:Cx}{a b:Expr}{ta tb:TE}{pos:Pos}
theorem zoc {r:R2}(hr:IxR X r)(ha:PE X a ta)(hb:PE X b tb)(hs:zmB b) : PE X (.Subscript a b pos) (tOp r ta tb):=by
 intro pins s σ H Q I h
 exact Subscript_ (binT ha hb I h fun v u s2 x y H2 I2 rx ry q=>hr a b pins s2 σ H2 x y v u Q I2 rx ry q (hs _ _))
def rIxL (K:W.Frag) : R2:=fun x y H Q=>∃ p xs i v,x=.ref p/\y=.int i/\SqL K H p xs/\atI xs i=some v/\Q v H
def rIxT (K:W.Frag) : R2:=fun x y H Q=>∃ p xs i v,x=.ref p/\y=.int i/\SqT K H p xs/\atI xs i=some v/\Q v H
def rIxS:R2:=fun x y H Q=>∃ z i c,x=.str z/\y=.int i/\z.length<=sizeLine/\atI z.cps.toList i=some c/\Q (.str ⟨#[c]⟩) H
theorem zmz:IxR X (rIxL X.K):=by
 intro value slice pins s σ H x y v u Q I rx ry h hs
 obtain ⟨p,xs,i,z,rfl,rfl,hq,he,q⟩:=h
 cases rx
 obtain ⟨t,rfl⟩:=ry
 obtain ⟨its,r,pl,hz⟩:=I.list hq
 obtain ⟨j,h1,h2,h3,h4,h5⟩:=zhd he
 obtain ⟨w,ew,rw'⟩:=r.get h2
 have hl:=r.length
 have hn:=zfU
 have fin:EP X pins σ Q w s:=⟨z,H,I,rw',q⟩
 by_cases h0:0<=i
 ·have hj:i.toNat=j:=by
   rw [seqIndex_of h0 h5] at h1
   exact Option.some.inj h1
  exact item_listR pl.isList h0 (by omega) (by rw [hj];simpa using ew) fin hs
 ·have hj:(i+(its.toArray.size:Int)).toNat=j:=by
   rw [seqIndex_neg (by omega) h4] at h1
   rw [List.size_toArray,<- hl]
   exact Option.some.inj h1
  exact subscriptTail_builtinR (x:=w) pl.isList.typeIs slot_list_getitem.lookup
   (wpAny_getItem_list_neg (Q:=fun r s'=>r=w/\EP X pins σ Q r s') pl.isList (by omega) (by rw [List.size_toArray]<;>omega) (by omega) (by rw [hj];simpa using ew) ⟨rfl,fin⟩) hs
theorem znd:IxR X (rIxT X.K):=by
 intro value slice pins s σ H x y v u Q I rx ry h hs
 obtain ⟨p,xs,i,z,rfl,rfl,hq,he,q⟩:=h
 cases rx
 obtain ⟨t,rfl⟩:=ry
 obtain ⟨its,r,pl,hz⟩:=I.tuple hq
 obtain ⟨j,h1,h2,h3,h4,h5⟩:=zhd he
 obtain ⟨w,ew,rw'⟩:=r.get h2
 have hl:=r.length
 have hn:=zfU
 have fin:EP X pins σ Q w s:=⟨z,H,I,rw',q⟩
 exact subscriptTail_builtinR (x:=w) pl.typeIs slot_tuple_getitem.lookup
  (getItem_tuple (j:=j) (Q:=fun r s'=>r=w/\EP X pins σ Q r s') pl (by omega) (by omega) (by rw [List.size_toArray,<- hl];exact h1) (by simpa using ew) ⟨rfl,fin⟩) hs
theorem zm0:IxR X rIxS:=by
 intro value slice pins s σ H x y v u Q I rx ry h hs
 obtain ⟨z,i,c,rfl,rfl,hz,he,q⟩:=h
 obtain ⟨t,rfl⟩:=rx
 obtain ⟨t',rfl⟩:=ry
 obtain ⟨j,h1,h2,h3,h4,h5⟩:=zhd he
 have hl:z.cps.toList.length=z.length:=by simp [Str.length]
 rw [hl] at h1 h4 h5
 have hn:=zfU
 exact tail_any (typeIs_str s z t) slot_str_getitem.lookup (getItem_str (c:=c) (by
  have e1:decide (i < -(2 ^ 63:Int))=false:=decide_eq_false (by omega)
  have e2:decide (i ≥ 2 ^ 63)=false:=decide_eq_false (by omega)
  rw [e1,e2,Bool.or_false]) (by rw [h1];simpa using h2) ⟨.str ⟨#[c]⟩,H,I.tok _,⟨_,rfl⟩,q⟩) hs
theorem zf9 (lo hi:Option Int)(n:Nat) : (sliceBounds lo hi none n).1=((HT.sIx n 0 lo:Nat) : Int)/\(sliceBounds lo hi none n).2.1=((HT.sIx n n hi:Nat) : Int)/\(sliceBounds lo hi none n).2.2=1:=by
 refine ⟨?_,?_,rfl⟩
 ·cases lo with
  | none=>simp [sliceBounds,HT.sIx]
  | some i =>
   simp only [sliceBounds,HT.sIx,Option.getD_none,show (1:Int)>0 by decide,if_true]
   by_cases h:i<0
   ·simp only [h,if_true]<;>omega
   ·simp only [h,if_false]<;>omega
 ·cases hi with
  | none=>simp [sliceBounds,HT.sIx]
  | some i =>
   simp only [sliceBounds,HT.sIx,Option.getD_none,show (1:Int)>0 by decide,if_true]
   by_cases h:i<0
   ·simp only [h,if_true]<;>omega
   ·simp only [h,if_false]<;>omega
theorem zfL (its:List Value)(lo hi:Option Int) : slicePick its.toArray lo hi none=((its.drop (HT.sIx its.length 0 lo)).take (HT.sIx its.length its.length hi-HT.sIx its.length 0 lo)).toArray:=by
 obtain ⟨h1,h2,h3⟩:=zf9 lo hi its.toArray.size
 unfold slicePick
 rw [h1,h2,h3]
 simp only [sliceRange_one,pick_run,List.size_toArray]<;>rfl
def rSlL (K:W.Frag) : V->Option Int->Option Int->Hp->VK->Prop:=fun x lo hi H Q=>∃ a xs,x=.ref a/\SqL K H a xs/\∀ p,H p=none->Q (.ref p) (upd H p (.lst (cutV xs lo hi)))
theorem zjZ:SlR X (rSlL X.K):=by
 intro pins s σ H x v vl vu lo hi sl Q I rx hs pl pu h
 obtain ⟨a,xs,rfl,hx,q⟩:=h
 cases rx
 obtain ⟨its,r,ht,hz⟩:=I.list hx
 have hlen:=r.length
 refine ⟨"list", _,slot_list_getitem.lookup,ht.isList.typeIs,?_⟩
 refine wpAny_getItem_list_slice ht.isList hs pl pu .none (by simp) ?_ (by rw [List.size_toArray]<;>omega)
 rw [zfL,<- hlen]
 refine ⟨.ref s.heap.objs.size,_,I.laid (t':=s.toks) (o:=.lst (cutV xs lo hi)) (fun b ob q=>Heap.get?_push_of_some _ q) (Nat.le_refl _) ?_,rfl,q _ (I.hok.fresh (Nat.le_refl _))⟩
 exact ⟨Nat.le_trans (zgZ xs lo hi) hz,_,0,(r.drop (HT.sIx xs.length 0 lo)).take (HT.sIx xs.length xs.length hi-HT.sIx xs.length 0 lo),Heap.get?_push_size _ rfl⟩
def zfe:V->Bool
 | .non=>true
 | .bl _=>true
 | .int _=>true
 | .str _=>true
 | _=>false
def eqV:V->V->Bool
 | .non,.non=>true
 | .bl a,.bl b=>a == b
 | .bl a,.int b=>(if a then 1 else 0) == b
 | .int a,.bl b=>a == (if b then 1 else 0)
 | .int a,.int b=>a == b
 | .str a,.str b=>a == b
 | _,_=>false
theorem znK {A:Around}{s:Shared}{y x:V}{u v:Value}(ry:RelV y u)(rx:RelV x v)(fy:zfe y=true)(fx:zfe x=true) : SeqAt.EqAt A s u v (eqV y x):=by
 cases y with
 | non =>
  cases ry
  cases x with
  | non=>cases rx;exact SeqAt.EqAt.same _
  | bl b=>cases rx;exact SeqAt.EqAt.none_bool b
  | int b=>obtain ⟨t,rfl⟩:=rx;exact SeqAt.EqAt.none_int b t
  | str b=>obtain ⟨t,rfl⟩:=rx;exact SeqAt.EqAt.none_str b t
  | _=>exact absurd (show false=true from fx) Bool.false_ne_true
 | bl a =>
  cases ry
  cases x with
  | non=>cases rx;exact SeqAt.EqAt.bool_none a
  | bl b=>cases rx;exact SeqAt.EqAt.bool_bool a b
  | int b=>obtain ⟨t,rfl⟩:=rx;exact SeqAt.EqAt.bool_int a b t
  | str b=>obtain ⟨t,rfl⟩:=rx;exact SeqAt.EqAt.bool_str a b t
  | _=>exact absurd (show false=true from fx) Bool.false_ne_true
 | int a =>
  obtain ⟨t',rfl⟩:=ry
  cases x with
  | non=>cases rx;exact SeqAt.EqAt.int_none a t'
  | bl b=>cases rx;exact SeqAt.EqAt.int_bool a t' b
  | int b=>obtain ⟨t,rfl⟩:=rx;exact SeqAt.EqAt.int_int a t' b t
  | str b=>obtain ⟨t,rfl⟩:=rx;exact SeqAt.EqAt.int_str a t' b t
  | _=>exact absurd (show false=true from fx) Bool.false_ne_true
 | str a =>
  obtain ⟨t',rfl⟩:=ry
  cases x with
  | non=>cases rx;exact SeqAt.EqAt.str_none a t'
  | bl b=>cases rx;exact SeqAt.EqAt.str_bool a t' b
  | int b=>obtain ⟨t,rfl⟩:=rx;exact SeqAt.EqAt.str_int a t' b t
  | str b=>obtain ⟨t,rfl⟩:=rx;exact SeqAt.EqAt.str_str a t' b t
  | _=>exact absurd (show false=true from fx) Bool.false_ne_true
 | _=>exact absurd (show false=true from fy) Bool.false_ne_true
def eqU (x:V)(u:Value) : Bool:=match u with
 | .none=>eqV .non x
 | .bool b=>eqV (.bl b) x
 | .int i _=>eqV (.int i) x
 | .str z _=>eqV (.str z) x
 | _=>false
theorem zlh {x y:V}{u:Value}(r:RelV y u)(f:zfe y=true) : eqU x u=eqV y x:=by
 cases y with
 | non=>cases r;rfl
 | bl b=>cases r;rfl
 | int i=>obtain ⟨t,rfl⟩:=r;rfl
 | str z=>obtain ⟨t,rfl⟩:=r;rfl
 | _=>exact absurd (show false=true from f) Bool.false_ne_true
theorem zgX {x:V} : ∀ {xs:List V} {us:List Value},Vals xs us->xs.all zfe=true->us.any (eqU x)=xs.any fun y=>eqV y x
 | _,_,.nil,_=>rfl
 | y::xs,u::us,.cons r t,f=>by
  rw [List.all_cons,Bool.and_eq_true] at f
  rw [List.any_cons,List.any_cons,zlh r f.1,zgX t f.2]
theorem zfw {A:Around}{s:Shared}{x:V}{v:Value}(rx:RelV x v)(fx:zfe x=true) : ∀ {xs:List V} {us:List Value},Vals xs us->xs.all zfe=true->∀ u∈us,SeqAt.EqAt A s u v (eqU x u)
 | _,_,.nil,_=>fun u hu=>by cases hu
 | y::xs,u::us,.cons r t,f=>fun u' hu=>by
  rw [List.all_cons,Bool.and_eq_true] at f
  rcases List.mem_cons.mp hu with rfl | hu
  ·rw [zlh r f.1];exact znK r rx f.1 fx
  ·exact zfw rx fx t f.2 u' hu
def inV (x:V)(xs:List V) : Bool:=xs.any fun y=>eqV y x
def rIn (K:W.Frag)(neg:Bool) : R2:=fun x y H Q=>∃ p xs,y=.ref p/\(SqL K H p xs\/SqT K H p xs)/\zfe x=true/\xs.all zfe=true/\Q (.bl (if neg then !inV x xs else inV x xs)) H
theorem zji:OpR X (compareOp .In) (rIn X.K false):=by
 intro pins s σ H x y v u Q I rx ry h
 obtain ⟨p,xs,rfl,hq,fx,fs,q⟩:=h
 cases ry
 rcases hq with hq | hq
 ·obtain ⟨its,r,pl,hz⟩:=I.list hq
  refine SeqAt.in_listAt (eqU x) pl.isList (fun w hw=>zfw rx fx r fs w (by simpa using hw)) ⟨.bl _,H,I,rfl,?_⟩
  rw [show its.toArray.any (eqU x)=its.any (eqU x) by simp,zgX r fs]
  exact q
 ·obtain ⟨its,r,pl,hz⟩:=I.tuple hq
  refine SeqAt.in_tupleAt (eqU x) pl (fun w hw=>zfw rx fx r fs w (by simpa using hw)) ⟨.bl _,H,I,rfl,?_⟩
  rw [show its.toArray.any (eqU x)=its.any (eqU x) by simp,zgX r fs]
  exact q
theorem zf5:zb4 X (.builtin "len") (fun xs H Q=>∃ p ys,xs=[.ref p]/\(SqL X.K H p ys\/SqT X.K H p ys)/\Q (.int ys.length) H):=by
 intro pins s σ H xs us Q I r h
 obtain ⟨p,ys,rfl,hq,q⟩:=h
 obtain ⟨u,rfl,rx⟩:=vals1 r
 cases rx
 have hn:=zfU
 rcases hq with hq | hq
 ·obtain ⟨its,r',pl,hz⟩:=I.list hq
  have hlen:=r'.length
  exact Calls.call_len_list pl.isList (by simp only [List.size_toArray]<;>omega) ⟨.int ys.length,H,I.tok _,⟨s.toks+1,by rw [List.size_toArray,hlen]⟩,q⟩
 ·obtain ⟨its,r',pl,hz⟩:=I.tuple hq
  have hlen:=r'.length
  exact len_tuple pl (by simp only [List.size_toArray]<;>omega) ⟨.int ys.length,H,I.tok _,⟨s.toks+1,by rw [List.size_toArray,hlen]⟩,q⟩
theorem zfT:zb4 X (.builtin "len") (fun xs H Q=>∃ z,xs=[.str z]/\z.length<=sizeLine/\Q (.int z.length) H):=by
 intro pins s σ H xs us Q I r h
 obtain ⟨z,rfl,hz,q⟩:=h
 obtain ⟨u,rfl,t,rfl⟩:=vals1 r
 have hn:=zfU
 exact len_str (by omega) ⟨.int z.length,H,I.tok _,⟨_,rfl⟩,q⟩
theorem zgj:zb4 X (.type "list") (fun xs H Q=>∃ p ys,xs=[.ref p]/\(SqL X.K H p ys\/SqT X.K H p ys)/\∀ l,H l=none->Q (.ref l) (upd H l (.lst ys))):=by
 intro pins s σ H xs us Q I r h
 obtain ⟨p,ys,rfl,hq,q⟩:=h
 obtain ⟨u,rfl,rx⟩:=vals1 r
 cases rx
 have fin:∀ (its:List Value),Vals ys its->ys.length<=sizeLine->∀ (h':Heap) (c':Nat),(∀ b o',s.heap.get? b=some o'->h'.get? b=some o') ->
   h'.get? s.heap.objs.size=some { cls:=.type "list", dict:=none,data:=.seq its.toArray c',slots:=#[] }->EP X pins σ Q (.ref s.heap.objs.size) { s with heap:=h' }:=fun its r' hz h' c' kp e =>
  ⟨.ref s.heap.objs.size,_,I.laid (t':=s.toks) kp (Nat.le_refl _) (show ObjOk X.prog X.w _ h' _ (.lst ys) from ⟨hz,its,c',r',e⟩),rfl,q _ (I.hok.fresh (Nat.le_refl _))⟩
 rcases hq with hq | hq
 ·obtain ⟨its,r',pl,hz⟩:=I.list hq
  have hlen:=r'.length
  obtain ⟨o,ho,hc,n,hd⟩:=pl.isList
  exact call_list_seq p (.inl rfl) ho hc hd (fun h' c' kp e=>fin its r' hz h' c' kp e) (by simp only [List.size_toArray]<;>omega)
 ·obtain ⟨its,r',pl,hz⟩:=I.tuple hq
  have hlen:=r'.length
  obtain ⟨o,ho,hc,n,hd⟩:=pl
  exact call_list_seq p (.inr rfl) ho hc hd (fun h' c' kp e=>fin its r' hz h' c' kp e) (by simp only [List.size_toArray]<;>omega)
theorem zfF:zb4 X (.type "tuple") (fun xs H Q=>∃ p ys,xs=[.ref p]/\((SqL X.K H p ys/\∀ l,H l=none->Q (.ref l) (upd H l (.tup ys)))\/(SqT X.K H p ys/\Q (.ref p) H))):=by
 intro pins s σ H xs us Q I r h
 obtain ⟨p,ys,rfl,h⟩:=h
 obtain ⟨u,rfl,rx⟩:=vals1 r
 cases rx
 rcases h with ⟨hq,q⟩ | ⟨hq,q⟩
 ·obtain ⟨its,r',pl,hz⟩:=I.list hq
  have hlen:=r'.length
  refine call_tuple_list pl.isList (fun h' kp=>?_) (by simp only [List.size_toArray]<;>omega)
  have I1:Inv X pins σ H { s with heap:=h' }:=I.kept (t':=s.toks) kp
  have I2:Inv X pins σ (upd H h'.objs.size (.tup ys)) { s with heap:=h'.push { cls:=.type "tuple", data:=.seq its.toArray } } :=
   I1.laid (t':=s.toks) (fun b o e=>Heap.get?_push_of_some _ e) (Nat.le_refl _) (show ObjOk X.prog X.w _ _ _ (.tup ys) from ⟨hz,its,r',IsTup.new _ _⟩)
  exact ⟨.ref h'.objs.size,_,I2,rfl,q _ (I1.hok.fresh (Nat.le_refl _))⟩
 ·obtain ⟨its,r',pl,hz⟩:=I.tuple hq
  exact call_tuple_same pl ⟨.ref p,H,I,rfl,q⟩
def tyV (K:W.Frag)(T:String)(x:V)(H:Hp) : Prop:=match x with
 | .str _=>T = "str"
 | .int _=>T = "int"
 | .ref p => (T = "list" ∧ ∃ xs, SqL K H p xs) ∨ (T = "tuple" ∧ ∃ o, K.lookup p = some o ∧ o.cls = .type "tuple" ∧ o.dict = none) ∨
   (T = "dict" /\ ((∃ kvs,H p=some (.dK kvs))\/∃ kvs,H p=some (.dT kvs)))\/(T = "set" /\ ∃ S n,H p=some (.set S n))
 | _=>False
theorem zny {pins:List (Addr×Obj)}{σ:St}{H:Hp}{s:Shared}{T:String}{x:V}{v:Value}(I:Inv X pins σ H s)(r:RelV x v)(ty:tyV X.K T x H) :
  s.TypeIs v T/\∀ a,v=.ref a->∃ ob,s.heap.get? a=some ob/\ob.dict=none:=by
 cases x with
 | str z =>
  obtain ⟨t,rfl⟩:=r
  cases (show T = "str" from ty)
  exact ⟨typeIs_str s z t,fun _ e=>nomatch e⟩
 | int i =>
  obtain ⟨t,rfl⟩:=r
  cases (show T = "int" from ty)
  exact ⟨typeIs_int s i t,fun _ e=>nomatch e⟩
 | ref p =>
  cases r
  rcases ty with ⟨rfl,xs,hq⟩ | ⟨rfl,o,hk,hc,hd⟩ | ⟨rfl,hk⟩ | ⟨rfl,S,n,hk⟩
  ·obtain ⟨its,_,pl,_⟩:=I.list hq
   refine ⟨pl.isList.typeIs,fun a e=>?_⟩
   cases e
   obtain ⟨o,n,e,c,hd,_⟩:=pl
   exact ⟨o,e,hd⟩
  ·refine ⟨⟨o,I.kIn p o hk,hc⟩,fun a e=>?_⟩
   cases e
   exact ⟨o,I.kIn _ o hk,hd⟩
  ·have z:∃ o,s.heap.get? p=some o/\o.ExactDict:=by
    rcases hk with ⟨kvs,hk⟩ | ⟨kvs,hk⟩
    ·obtain ⟨_,_,_,_,o,_,_,e,ex,_⟩:=I.hok p _ hk
     exact ⟨o,e,ex⟩
    ·obtain ⟨_,_,_,_,o,_,_,e,ex,_⟩:=I.hok p _ hk
     exact ⟨o,e,ex⟩
   obtain ⟨o,e,ex⟩:=z
   refine ⟨⟨o,e,ex.1⟩,fun a e2=>?_⟩
   cases e2
   exact ⟨o,e,ex.2.1⟩
  ·obtain ⟨o,_,_,_,e,ex,_⟩:=I.hok p _ hk
   refine ⟨⟨o,e,ex.1⟩,fun a e2=>?_⟩
   cases e2
   exact ⟨o,e,ex.2.1⟩
 | _=>exact False.elim ty
def tBM (K:W.Frag)(T:String)(r:V->List V->Hp->VK->Prop)(to:TE)(t:TA) : TE:=fun σ H Q=>to σ H fun x H1=>tyV K T x H1/\t σ H1 fun xs H2=>r x xs H2 Q
variable {o e:Expr}{es:List Expr}{to:TE}{t:TA}{name:Str}{apos cpos:Pos}{T id:String}{r:V->List V->Hp->VK->Prop}
theorem zkD (pa:PlainAttrs T)(slot:Slot T name id)(hty:typeOf (.builtin id)=pure (.type "method_descriptor"))(hm:MtR X id r)(ho:PE X o to)(ha:PA X (e::es) t)
  (hbase:attributeBase o name X.env (eval o X.env)=eval o X.env:=by rfl)
  (hfew:((backTo cpos (starEach (e::es) X.env)).all (fun x=>!x.1)&&(backToKw cpos (keywordEach [] X.env)).all (fun x=>x.1.isSome)
   && decide ((e::es).length+([] : List Keyword).length+(if ([] : List Keyword).isEmpty then 0 else 1)<30))=true:=by rfl)
  (hline:(apos.endLine == cpos.line)=true:=by rfl) (hs:starEach (e::es) X.env=(false,eval e X.env)::starEach es X.env:=by rfl) (hplain:(backTo cpos (starEach es X.env)).any (·.1)=false:=by rfl) :
  PE X (.Call (.Attribute o name apos) (e::es) [] cpos) (tBM X.K T r to t):=by
 intro pins s σ H Q I h
 refine wpAny_Call_method_late hbase hfew hline rfl (thn (ho pins s σ H _ I h) fun v s1 ⟨x,H1,I1,r1,ty,q1⟩=>?_)
 obtain ⟨h1,h2⟩:=zny I1 r1 ty
 refine ⟨T,id,pa,slot,hty,h1,h2,?_⟩
 have hA:=ha cpos pins s1 σ H1 _ I1 q1
 rw [hs] at hA ⊢
 refine Calls.callWith_builtin (by show (false||(backTo cpos (starEach es X.env)).any (·.1))=false;rw [hplain]<;>rfl) (Calls.evalArgs_plain ?_)
 exact thn hA fun us s2 ⟨vs,H2,I2,r2,q2⟩=>hm pins s2 σ H2 x vs v us Q I2 r1 r2 q2
end
def MtM (X:Cx)(id:String)(r:V->List V->Hp->VK->Prop) : Prop :=
 ∀ (pins:List (Addr×Obj)) (s:Shared) (σ:St) (H:Hp) (x:V) (xs:List V) (v:Value) (us:List Value) (Q:VK),Inv X pins σ H s->RelV x v->Vals xs us->r x xs H Q ->
  wpAny (model X.prog X.w) X.A (call (.builtin id) (v::us)) (EP X pins σ Q) X.xe s
theorem Vals.one:∀ {x:V} {us:List Value},Vals [x] us->∃ u,us=[u]/\RelV x u
 | _,_,.cons r .nil=>⟨_,rfl,r⟩
section
variable {X:Cx}{pins:List (Addr×Obj)}{σ:St}{H:Hp}{s:Shared}{l b:Addr}{xs ys zs:List V}
theorem Inv.lset {its its':List Value}{n:Nat}{f:Array Value->Array Value}{t':Nat}(I:Inv X pins σ H s)(hH:H l=some (.lst xs))
  (e:s.heap.get? l=some { cls:=.type "list", data:=.seq its.toArray n }) (hf:f its.toArray=its'.toArray) (hv:Vals ys its') (hz:ys.length<=sizeLine) :
  Inv X pins σ (upd H l (.lst ys)) { s with heap:=s.heap.update l (Obj.mapSeq f),toks:=t' }:=by
 have q:=PySem.IsL.update e f
 rw [hf] at q
 refine I.write (x:=l) (e:=l) (by rw [hH];exact trivial) (.inl rfl) (fun b' u hb hu=>(Heap.get?_update_other s.heap (Obj.mapSeq f) (Ne.symm hb)).trans hu) ⟨_,q⟩ ?_
 exact ⟨hz,its',_,hv,q⟩
theorem Inv.lnew {its:List Value}{t':Nat}(I:Inv X pins σ H s)(hv:Vals ys its)(hz:ys.length<=sizeLine) :
  Inv X pins σ (upd H s.heap.objs.size (.lst ys)) { s with heap:=s.heap.push { cls:=.type "list", data:=.seq its.toArray },toks:=t' } :=
 I.laid (fun _ _ q=>Heap.get?_push_of_some _ q) (Nat.le_refl _) ⟨hz,its,0,hv,Heap.get?_push_size _ rfl⟩
theorem Inv.fresh (I:Inv X pins σ H s) : H s.heap.objs.size=none:=I.hok.fresh (Nat.le_refl _)
theorem Inv.lstM (I:Inv X pins σ H s)(hH:H l=some (.lst xs)) : xs.length<=sizeLine/\∃ (its:List Value) (n:Nat),Vals xs its/\xs.length=its.length/\s.heap.get? l=some { cls:=.type "list", data:=.seq its.toArray n }:=by
 obtain ⟨z,its,n,r,e⟩:=I.hok l _ hH
 exact ⟨z,its,n,r,r.length,e⟩
theorem zkV {n:Nat}(h:n<=sizeLine) : Builtin.List.listTooLong n=false:=by
 unfold Builtin.List.listTooLong
 exact decide_eq_false (by omega)
end
section
variable {X:Cx}
def zdz:V->List V->Hp->VK->Prop:=fun x vs H Q=>∃ l xs y,x=.ref l/\vs=[y]/\H l=some (.lst xs)/\xs.length<sizeLine/\Q .non (upd H l (.lst (xs++[y])))
theorem zef:MtM X "list.append" zdz:=by
 intro pins s σ H x vs v us Q I rx rv h
 obtain ⟨l,xs,y,rfl,rfl,hH,hz,q⟩:=h
 cases rx
 obtain ⟨u,rfl,ru⟩:=rv.one
 obtain ⟨z,its,n,r,hl,e⟩:=I.lstM hH
 refine call_meets F.slot_list_append ⟨_,e,rfl⟩ F.entry_list_append (F.args_list_append_2 _ _) (PySem.list_append l its.toArray n u (by rw [List.size_toArray];omega)) ⟨e,?_⟩
 refine ⟨.non,_,I.lset (its':=its++[u]) hH e (by simp) (r.append (.cons ru .nil)) ?_,rfl,q⟩
 rw [List.length_append,List.length_singleton]
 omega
def zjI:V->List V->Hp->VK->Prop:=fun x vs H Q=>∃ l b xs zs,x=.ref l/\vs=[.ref b]/\H l=some (.lst xs)/\H b=some (.lst zs)/\xs.length+zs.length<=sizeLine/\Q .non (upd H l (.lst (xs++zs)))
theorem zjH:MtM X "list.extend" zjI:=by
 intro pins s σ H x vs v us Q I rx rv h
 obtain ⟨l,b,xs,zs,rfl,rfl,hH,hB,hz,q⟩:=h
 cases rx
 obtain ⟨u,rfl,ru⟩:=rv.one
 cases ru
 obtain ⟨z,its,n,r,hl,e⟩:=I.lstM hH
 obtain ⟨z2,its2,n2,r2,hl2,e2⟩:=I.lstM hB
 have hsz:its.toArray.size+its2.toArray.size<=sizeLine:=by rw [List.size_toArray,List.size_toArray];omega
 have hlong : ¬ (!its.toArray.isEmpty&&Builtin.List.listTooLong (its.toArray.size+its2.toArray.size))=true:=by
  rw [zkV hsz,Bool.and_false]
  exact Bool.false_ne_true
 refine call_meets F.slot_list_extend ⟨_,e,rfl⟩ F.entry_list_extend (F.args_list_extend_2 _ _)
  (AutoSeq1.list_extend_list_list_0 l its.toArray n b its2.toArray n2 hlong (by rw [List.size_toArray];omega) (by omega)) ⟨e,e2,?_⟩
 refine ⟨.non,_,I.lset (its':=its++its2) hH e (by simp) (r.append r2) ?_,rfl,q⟩
 rw [List.length_append]
 omega
def rCat:R2:=fun x y H Q=>∃ l b xs zs,x=.ref l/\y=.ref b/\H l=some (.lst xs)/\H b=some (.lst zs)/\xs.length+zs.length<=sizeLine/\∀ p,H p=none->Q (.ref p) (upd H p (.lst (xs++zs)))
theorem zm7:OpR X (binaryOp .Add) rCat:=by
 intro pins s σ H x y v u Q I rx ry h
 obtain ⟨l,b,xs,zs,rfl,rfl,hH,hB,hz,q⟩:=h
 cases rx
 cases ry
 obtain ⟨z,its,n,r,hl,e⟩:=I.lstM hH
 obtain ⟨z2,its2,n2,r2,hl2,e2⟩:=I.lstM hB
 refine PySem.P.add_list e e2 ?_ (by rw [List.size_toArray,List.size_toArray];omega)
 have ea:its.toArray++its2.toArray=(its++its2).toArray:=by simp
 rw [ea]
 exact ⟨.ref _,_,I.lnew (t':=s.toks) (r.append r2) (by rw [List.length_append];omega),rfl,q _ I.fresh⟩
end
section
variable {prog:Program}{w:World}{A:Around}{E:Value->Shared->Prop}{s:Shared}
end
section
variable {X:Cx}
end
end L2
namespace Att
open PySem PySem.W PySem.Calls PyProof.Rows
theorem zdZ {P:Params}{h:Heap} : ∀ (ns:List Int) (vs:List Value),WellAll P h vs (ns.map WData.int)->IntsAre vs ns:=by
 intro ns
 induction ns with
 | nil =>
  intro vs w
  rw [List.map_nil] at w
  cases w
  exact .nil
 | cons n ns ih =>
  intro vs w
  rw [List.map_cons] at w
  cases w with
  | cons a b =>
   cases a
   exact .cons _ _ (ih _ b)
theorem zjz {l:OpenLaw}{n:Nat}(hn:l.most=some n){P:Params}{h:Heap}{args:List WData}{vals:List Value}
  (hpre:l.row.toRowW.claim.pre args=true) (hwl:WellAll P h vals args) :
  ∃ a vs ns,vals=[Value.ref a]/\args=[WData.list (ns.map WData.int)]/\h.get? a=some { cls:=.type "list", data:=.seq vs.toArray }/\IntsAre vs ns/\ns.length<=n:=by
 have hsh:WShape.hasAll [] args [.list .int]=true:=(pre_splitW hpre).1
 have hc:l.pre.holds [] { args:=args }=true:=(pre_splitW hpre).2
 obtain ⟨d,r,rfl,h1,h2⟩:=hasAllW_cons hsh
 obtain rfl:=hasAllW_nil h2
 obtain ⟨xs,rfl,h3⟩:=hasW_list h1
 obtain ⟨ns,rfl⟩:=items_int h3
 have hlen:ns.length<=n:=by
  unfold OpenLaw.pre at hc
  have h4:(WTm.not (.lt (.lit (.int (n:Int))) (.len (.arg 0)))).holds [] { args:=[.list (ns.map .int)] }=true:=by
   have h4:=(holds_andW hc).1
   rw [hn] at h4
   exact h4
  have h5:=condW_of h4 (w_not (w_lt w_lit (w_len_list (w_arg rfl))))
  rw [List.length_map] at h5
  refine Nat.le_of_not_lt fun q=>?_
  have q':(n:Int)<((ns.length:Nat) : Int):=by omega
  first
   | (rw [decide_eq_true q'] at h5;exact absurd h5 (by decide))
   | (simp at h5;omega)
 cases hwl with
 | cons w1 w2 =>
  cases w2
  cases w1 with
  | list ho hall=>exact ⟨_,_,ns,rfl,rfl,ho,zdZ ns _ hall,hlen⟩
theorem zi0 (l:OpenLaw)(args:List WData) : l.row.toRowW.claim.post args (.bool true) args=true :=
 postW_of (r:=l.row.toRowW) (X:=(true == true))
  (show WShape.has [] (.bool true) .bool=true by first | rfl | decide | simp [WShape.has,WShape.arms,WShape.armsAll])
  (show (WTm.eq .res (.lit (.bool true))).value [] { args:=args,res:=some (.bool true),after:=args }=some (.bool (true == true)) from w_eq_bool (w_res rfl) w_lit) rfl
theorem attach_call {l:OpenLaw}{n:Nat}{q:Program}{loose:List Str}{XP:(Str->Option Value)->Heap->Prop}{YP:World->Heap->Prop}{d:DefRec}
  (hn:l.most=some n) (hdf:d.params.defaults=[])
  (call:∀ (w:World) (s₀ s₁:Shared) (mg mb:Str->Option Value) (fa:Addr) (o:Obj) (pm cd doc:Value) (a:Addr) (vs:List Value) (ns:List Int),
   Ground q loose [] XP w s₀ mg mb s₁.heap->YP w s₁.heap ->
   s₁.heap.get? fa=some o->o.data=.func (docDef d.name d.params d.body d.scope pm cd doc)->s₁.heap.CodeRec cd d.name->mg d.name=some (.ref fa) ->
   s₁.heap.get? a=some { cls:=.type "list", data:=.seq vs.toArray }->IntsAre vs ns->ns.length<=n->s₁.gens = #[] ->
   codeAny (model l.prog w) callerA (.call (.ref fa) ⟨[.ref a],[]⟩) (fun r s'=>r=.ok (.ret (.bool true))/\OldK s₁.heap s'.heap/\s'.os=s₁.os/\AllBare s'.gens) s₁) :
  WalkO q loose XP YP l.row.toRowW d [] (fun f vs=>PySem.call f vs):=by
 intro w s₀ s₁ mg mb G Y fa o pm cd doc dV kV ho hd hcd hD hmg hg args vals as hpre hlay hrd hwl hlo
 obtain rfl:dV=.none:=Dflts.none hD hdf
 obtain rfl:kV=.none:=Dflts.noKw hD
 obtain ⟨a,vs,ns,rfl,rfl,hobj,hints,hlen⟩:=zjz hn hpre hwl
 refine enter_call (codeAny_mono (call w s₀ s₁ mg mb fa o pm cd doc a vs ns G Y ho (fd_plain hd) hcd hmg hobj hints hlen hg) fun r s' hq=>?_)
 obtain ⟨rfl,h2,h3,h4⟩:=hq
 exact ⟨.inl ⟨.bool true,.bool true,[],rfl,fun _=>rfl,.bool true,zi0 l _,fun _=>⟨List.Pairwise.nil,fun _ hm=>(nomatch hm)⟩⟩,h2,h3,h4⟩
section
variable {prog:Program}{w:World}{A:Around}{E:Value->Shared->Prop}{s:Shared}{K:Frag}
end
end Att
namespace L2
open PySem PySem.Spec PyProof.Rows
theorem zd5:∀ {vs:List Value} {ns:List Int},IntsAre vs ns->Vals (ns.map V.int) vs
 | _,_,.nil=>.nil
 | _,_,.cons n t h=>.cons ⟨t,rfl⟩ (zd5 h)
def Only (H:Hp) : Prop:=∀ b,H b=none\/∃ o xs,H b=some (.frz o (.lst xs))
theorem zkS {P:Program}{w:World}{K:W.Frag}{mg mb:Str->Option Value}{CX:CXT}{k:Nat}{fa a:Addr}{fd:FuncData}{x:Str}{sp:Sp}{s₁:Shared}{vs:List Value}{ns:List Int}
  (KX:K.In s₁.heap) (hns:s₁.heap.Ns mainGlobals mg) (hb:s₁.heap.Ns builtinsNs mb) (hbb:∀ x:Str,x ≠ "__name__" -> mb x=bootBuiltins x) (hlim:s₁.heap.NoLimit) (hg:s₁.gens = #[])
  (ha:s₁.heap.get? a=some { cls:=.type "list", data:=.seq vs.toArray }) (hi:IntsAre vs ns) (hl:ns.length<=sizeLine) (hr:Room k callerA)
  (F:∀ base:Heap,K.In base->base.Ns mainGlobals mg->FnOk P w K mg base CX k fa fd [x] sp) (hbind:∀ (s:Shared) (u:Value),BindsTo s fd ⟨[u],[]⟩ [(x,u)])
  (hsp:∀ H:Hp,Only H->SqL K H a (ns.map V.int)->sp [.ref a] H (fun v _=>v=.bl true) fun _ _ _=>False)
  (hCX:∀ H e s',CX [] H s₁ (fun _ _ _=>False) e s'->False) :
  codeAny (model P w) callerA (.call (.ref fa) ⟨[.ref a],[]⟩) (fun r s'=>r=.ok (.ret (.bool true))/\OldK s₁.heap s'.heap/\s'.os=s₁.os/\AllBare s'.gens) s₁:=by
 have rv:=zd5 hi
 have lenV:=hi.length
 have core : ∀ H : Hp, Only H → SqL K H a (ns.map V.int) → HOk P w H s₁.heap → (∀ b, H b ≠ none → b = a) → (H a ≠ none → K.lookup a = none) →
   codeAny (model P w) callerA (.call (.ref fa) ⟨[.ref a],[]⟩) (fun r s'=>r=.ok (.ret (.bool true))/\OldK s₁.heap s'.heap/\s'.os=s₁.os/\AllBare s'.gens) s₁:=by
  intro H hO hS hok hA hK
  have base_of:∀ {b:Addr} {o:Obj},s₁.heap.get? b=some o->H b=none->(hidT s₁.heap H).get? b=some o:=fun e n=>zkJ e n
  have noA:∀ {b:Addr} {o:Obj} {es:Array DictEntry} {ep:Nat},s₁.heap.get? b=some o->o.data=.dict es ep->H b=none:=fun {b o es ep} e d=>by
   cases q:H b with
   | none=>rfl
   | some u =>
    have e':b=a:=hA b (by rw [q];simp)
    subst e'
    rw [ha] at e;cases e
    have d':Data.seq vs.toArray _=Data.dict es ep:=d
    cases d'
  have nsK:∀ {b:Addr} {m:Str->Option Value},s₁.heap.Ns b m->(hidT s₁.heap H).Ns b m:=fun {b m} ⟨o,es,ep,e,d,r⟩=>⟨o,es,ep,base_of e (noA e d),d,r⟩
  have hKb:K.In (hidT s₁.heap H):=fun b o e=>base_of (KX b o e) (by
   cases q:H b with
   | none=>rfl
   | some u =>
    have e':b=a:=hA b (by rw [q];simp)
    subst e'
    rw [hK (by rw [q];simp)] at e;cases e)
  have hM:Mod K mg (hidT s₁.heap H):=⟨hKb,nsK hns,⟨mb,nsK hb,hbb⟩,let ⟨mc,h1,h2⟩:=hlim;⟨mc,nsK h1,h2⟩⟩
  have e0:Env0 P w K mg (hidT s₁.heap H) callerA [] s₁ H:=⟨rfl,hM,fun b o e=>zlK e,Nat.le_of_eq (zj2 _ _),trivial,fun b hb=>absurd (show b∈([] : List Addr) from hb) (by simp),hok,.of_eq hg⟩
  refine codeAny_mono ((F _ hKb (nsK hns)).run callerA [] s₁ H ⟨[.ref a],[]⟩ [.ref a] [.ref a] _ _ hr e0 (hbind s₁ (.ref a)) (.cons rfl .nil) (hsp H hO hS)) fun r s' h=>?_
  cases r with
  | error e=>exact (hCX H e s' h).elim
  | ok fl =>
   cases fl with
   | next=>exact False.elim h
   | brk=>exact False.elim h
   | cont=>exact False.elim h
   | ret u =>
    obtain ⟨v,H',os,bare,un,hok',r',q⟩:=h
    have q':v=.bl true:=q
    subst q'
    obtain rfl:u=Value.bool true:=r'
    refine ⟨rfl,OldK.of_keep fun b o e=>?_,os,bare⟩
    cases q:H b with
    | none=>exact un.keep b o e q (by intro z;exact absurd (show b∈([] : List Addr) from z) (by simp)) (by simp)
    | some u =>
     rcases hO b with z | ⟨ob,xs,z⟩
     ·rw [q] at z;cases z
     ·have z2:=un.frzs b ob _ z
      obtain ⟨e1,_⟩:=hok b _ z
      obtain ⟨e2,_⟩:=hok' b _ z2
      rw [e] at e1;cases e1
      exact e2
 cases hk:K.lookup a with
 | some o =>
  have e:=KX a o hk
  rw [ha] at e
  cases e
  refine core (fun _=>none) (fun _=>.inl rfl) (.inr ⟨_,vs.toArray,_,hk,rfl,rfl,rfl,by rw [List.size_toArray,lenV];exact hl,by simpa using rv⟩) (fun b u z=>by have z':(none:Option HO)=some u:=z;cases z') (fun b z=>absurd rfl z) fun z=>absurd rfl z
 | none =>
  refine core (fun b=>if b=a then some (.frz { cls:=.type "list", data:=.seq vs.toArray } (.lst (ns.map V.int))) else none) (fun b=>?_) (.inl (.inr ⟨{ cls:=.type "list", data:=.seq vs.toArray },if_pos rfl⟩)) (fun b u z=>?_) (fun b z=>?_) fun _=>hk
  ·by_cases hb:b=a
   ·exact .inr ⟨_,_,if_pos hb⟩
   ·exact .inl (if_neg hb)
  ·by_cases hb:b=a
   ·have z':=(if_pos hb).symm.trans z
    cases z'
    subst hb
    exact ⟨ha,by rw [List.length_map];exact hl,vs,_,rv,ha⟩
   ·have z':=(if_neg hb).symm.trans z
    cases z'
  ·by_cases hb:b=a
   ·exact hb
   ·exact absurd (if_neg hb) z
theorem walk_of {l:W.OpenLaw}{n k:Nat}{q:Program}{loose:List Str}{XP:(Str->Option Value)->Heap->Prop}{YP:World->Heap->Prop}{d:DefRec}{K:Params->W.Frag}{CX:World->CXT}{sp:World->Sp}{x:Str}
  (hn:l.most=some n) (hn2:n<=sizeLine) (hdf:d.params.defaults=[]) (hr:Room k callerA)
  (hY:∀ (w:World) (h:Heap),YP w h->(K w.params).In h)
  (F:∀ (w:World) (mg:Str->Option Value) (fa:Addr) (h:Heap),(K w.params).In h->h.Ns mainGlobals mg->mg d.name=some (.ref fa) ->
   ∃ fd:FuncData,(∀ (s:Shared) (u:Value),BindsTo s fd ⟨[u],[]⟩ [(x,u)]) /\
    ∀ base:Heap,(K w.params).In base->base.Ns mainGlobals mg->FnOk l.prog w (K w.params) mg base (CX w) k fa fd [x] (sp w))
  (hsp:∀ (w:World) (H:Hp) (a:Addr) (ns:List Int),ns.length<=n->Only H->SqL (K w.params) H a (ns.map V.int)->sp w [.ref a] H (fun v _=>v=.bl true) fun _ _ _=>False)
  (hCX:∀ (w:World) (H:Hp) (s:Shared) (e:Value) (s':Shared),CX w [] H s (fun _ _ _=>False) e s'->False) :
  W.WalkO q loose XP YP l.row.toRowW d [] (fun f vs=>PySem.call f vs):=by
 refine Att.attach_call hn hdf fun w s₀ s₁ mg mb fa o pm cd doc a vs ns G Y ho hd hcd hmg hobj hints hlen hg=>?_
 have KX:=hY w _ Y
 obtain ⟨fd,hb,hF⟩:=F w mg fa _ KX G.T.g hmg
 exact zkS KX G.T.g G.T.b G.T.builtins G.T.nolimit hg hobj hints (Nat.le_trans hlen hn2) hr hF hb (fun H hO hS=>hsp w H a ns hlen hO hS) fun H e s'=>hCX w H s₁ e s'
def zeh (s:Stmt) : Arguments:=match s with
 | .FunctionDef _ a _ _ _ _ _ _ _ _=>a
 | _=>{ posonlyargs:=[],args:=[],vararg:=none,kwonlyargs:=[],kw_defaults:=[],kwarg:=none,defaults:=[] }
def zcG (s:Stmt) : List Stmt:=match s with
 | .FunctionDef _ _ b _ _ _ _ _ _ _=>b
 | _=>[]
def zad (s:Stmt) : Scope:=match s with
 | .FunctionDef _ _ _ _ _ _ sc _ _ _=>sc
 | _=>{ kind:=.function,names:=[],isGenerator:=false,isCoroutine:=false }
abbrev CX0:CXT:=fun _ _ _ _ _ _=>False
abbrev E0:XK:=fun _ _ _=>False
theorem zou {X:Cx} : Passes CX0 X E0:=fun _ _ _ _ _ _ _ h=>h.elim
structure Fun (K:W.Frag) (x qual:Str) (st:Stmt) (f:Addr) (fd:FuncData) : Prop where
 ex:∃ (oc:Value) (od:Option Addr) (kV doc pm:Value) (an:Option Addr) (cdv ct:Value) (osl:Array (Option Value)),
  fd=W.fnOf x qual (zeh st) (zcG st) (zad st) .none kV doc pm an cdv ct/\K.lookup f=some ⟨oc,od,.func fd,osl⟩/\W.codeIn K cdv qual=true
 kp:W.keepIn K (.ref f)=true
section
variable {P:Program}{w:World}{K:W.Frag}{mg:Str->Option Value}{base:Heap}
theorem Fun.ok {x qual:Str}{st:Stmt}{f:Addr}{fd:FuncData}{N ps:List Str}{k:Nat}{sp:Sp}(F:Fun K x qual st f fd)(S:FnScope N ps (zad st))(len:∀ vs H Q E,sp vs H Q E->vs.length=ps.length)
  (hbody:∀ (cdv:Value) (A:Around) (outer:List Env) (s:Shared) (H:Hp) (vs:List V) (Q:VK) (E:XK),Room k (A.deeper (envOfC qual (zad st) s.heap.objs.size f cdv))->sp vs H Q E ->
   ∃ t,PSs (cxOf CX0 P w K mg base N qual (zad st) f cdv A outer s H E).nox (zcG st) t/\t { nx:=fun _ H'=>Q .non H',rt:=Q } (start N vs) H) : FnOk P w K mg base CX0 (k+1) f fd ps sp:=by
 obtain ⟨oc,od,kV,doc,pm,an,cdv,ct,osl,rfl,lk,hcd⟩:=F.ex
 refine zog lk hcd S len fun A outer s H vs Q E hr hsp=>?_
 obtain ⟨t,h,q⟩:=hbody cdv A outer s H vs Q E hr hsp
 exact ⟨t,h.nox,q⟩
theorem Fun.binds {x qual:Str}{st:Stmt}{f:Addr}{fd:FuncData}{ps:List Str}(F:Fun K x qual st f fd)
  (h:∀ (kV doc pm:Value) (an:Option Addr) (cdv ct:Value) (us:List Value),us.length=ps.length->bindArgs (W.fnOf x qual (zeh st) (zcG st) (zad st) .none kV doc pm an cdv ct) ⟨us,[]⟩=pure (ps.zip us)) : Binds K fd ps []:=by
 obtain ⟨oc,od,kV,doc,pm,an,cdv,ct,osl,rfl,lk,hcd⟩:=F.ex
 exact .all (h kV doc pm an cdv ct)
theorem fun_mk {x qual:Str}{st:Stmt}{f:Addr}{oc:Value}{od an:Option Addr}{osl:Array (Option Value)}{kV doc pm cdv ct:Value}(l:K.lookup f=some ⟨oc,od,.func (W.fnOf x qual (zeh st) (zcG st) (zad st) .none kV doc pm an cdv ct),osl⟩)
  (c:W.codeIn K cdv qual=true) (k:W.keepIn K (.ref f)=true) : Fun K x qual st f (W.fnOf x qual (zeh st) (zcG st) (zad st) .none kV doc pm an cdv ct):=⟨⟨oc,od,kV,doc,pm,an,cdv,ct,osl,rfl,l,c⟩,k⟩
end
theorem zah {n:Nat}(h:n<=1000) : n<sizeLine:=Nat.lt_of_le_of_lt h (by decide)
section
variable {X:Cx}
end
theorem iteF {A B:Prop}(h:B) : if false=true then A else B:=by
 rw [if_neg Bool.false_ne_true]
 exact h
theorem iteT {A B:Prop}(h:A) : if true=true then A else B:=by
 rw [if_pos rfl]
 exact h
theorem ite2 {c A B:Prop}[Decidable c](h1:c->A)(h2 : ¬ c->B) : if c then A else B:=by
 by_cases h:c
 ·rw [if_pos h]
  exact h1 h
 ·rw [if_neg h]
  exact h2 h
theorem zmJ {c A B:Prop}[Decidable c](hc:c)(h:B) : if (!decide c)=true then A else B:=by
 rw [decide_eq_true hc]
 exact iteF h
def Same (H H':Hp) : Prop:=∀ b o,H b=some o->H' b=some o
theorem Same.refl (H:Hp) : Same H H:=fun _ _ h=>h
theorem Same.trans {H H1 H2:Hp}(a:Same H H1)(b:Same H1 H2) : Same H H2:=fun c o h=>b c o (a c o h)
theorem Same.free {H H':Hp}(e:Same H H'){l:Addr}(h:H' l=Option.none) : H l=Option.none:=by
 cases q:H l with
 | none=>rfl
 | some o =>
  rw [e l o q] at h
  cases h
end L2
set_option maxHeartbeats 4000000
namespace Wr
open PySem PySem.W PyProof.Rows
section
variable {cmp:Nat->Nat->(Bool->Shared->Prop)->Shared->Prop}{key:Nat->Int}{n:Nat}{s:Shared}
end
end Wr
namespace L2
open PySem PySem.Spec PyProof.Rows
abbrev atA (X:Cx)(A:Around) : Cx:={ X with A:=A }
section
variable {X:Cx}{pins:List (Addr×Obj)}{σ:St}{H:Hp}{s:Shared}{A:Around}
end
def lexI:List Int->List Int->Bool
 | [],[]=>false
 | [],_::_=>true
 | _::_,[]=>false
 | a::x,b::y=>if a=b then lexI x y else decide (a<b)
theorem zdQ:∀ x,lexI x x=false
 | []=>rfl
 | a::x=>by show (if a=a then lexI x x else _)=false;rw [if_pos rfl];exact zdQ x
theorem zcq:∀ {x y z},lexI x y=true->lexI y z=true->lexI x z=true
 | [],[],_,h,_=>by cases h
 | [],_::_,[],_,h=>by cases h
 | [],_::_,_::_,_,_=>rfl
 | _::_,[],_,h,_=>by cases h
 | _::_,_::_,[],_,h=>by cases h
 | a :: x, b :: y, c :: z, h1, h2 => by
  simp only [lexI] at h1 h2 ⊢
  by_cases e1:a=b
  ·subst e1
   rw [if_pos rfl] at h1
   by_cases e2:a=c
   ·rw [if_pos e2] at h2 ⊢;exact zcq h1 h2
   ·rw [if_neg e2] at h2 ⊢;exact h2
  ·rw [if_neg e1] at h1
   have h1:=of_decide_eq_true h1
   by_cases e2:b=c
   ·subst e2;rw [if_neg e1];exact decide_eq_true h1
   ·rw [if_neg e2] at h2
    have h2:=of_decide_eq_true h2
    rw [if_neg (by lia)];exact decide_eq_true (by lia)
theorem zby:∀ {x y},lexI x y=false->lexI y x=false->x=y
 | [],[],_,_=>rfl
 | [],_::_,h,_=>by cases h
 | _::_,[],_,h=>by cases h
 | a :: x, b :: y, h1, h2 => by
  simp only [lexI] at h1 h2
  by_cases e:a=b
  ·subst e
   rw [if_pos rfl] at h1 h2
   rw [zby h1 h2]
  ·rw [if_neg e] at h1
   rw [if_neg (Ne.symm e)] at h2
   have:=of_decide_eq_false h1
   have:=of_decide_eq_false h2
   lia
def ziU (ks:List (List Int))(x:List Int) : Int:=((ks.filter fun k=>lexI k x).length:Nat)
theorem filter_mono {α:Type}{p q:α->Bool} : ∀ (l:List α),(∀ x∈l,p x=true->q x=true)->(l.filter p).length<=(l.filter q).length
 | [],_=>Nat.le_refl _
 | x :: l, h => by
  have ih:=filter_mono l fun y hy=>h y (List.mem_cons_of_mem _ hy)
  rw [List.filter_cons,List.filter_cons]
  by_cases e:p x=true
  ·rw [if_pos e,if_pos (h x List.mem_cons_self e),List.length_cons,List.length_cons];lia
  ·rw [if_neg e]
   split
   ·rw [List.length_cons];lia
   ·exact ih
theorem zc8 {α:Type}{p q:α->Bool}{a:α} : ∀ (l:List α),(∀ x∈l,p x=true->q x=true)->a∈l->p a=false->q a=true->(l.filter p).length<(l.filter q).length
 | [],_,h,_,_=>by cases h
 | x :: l, h, hm, h1, h2 => by
  have h':∀ y∈l,p y=true->q y=true:=fun y hy=>h y (List.mem_cons_of_mem _ hy)
  have mono:=filter_mono l h'
  rw [List.filter_cons,List.filter_cons]
  rcases List.mem_cons.mp hm with e | hm
  ·subst e
   rw [if_neg (by rw [h1];decide),if_pos h2,List.length_cons];lia
  ·have ih:=zc8 l h' hm h1 h2
   by_cases e:p x=true
   ·rw [if_pos e,if_pos (h x List.mem_cons_self e),List.length_cons,List.length_cons];lia
   ·rw [if_neg e]
    split
    ·rw [List.length_cons];lia
    ·exact ih
theorem zj3 {ks:List (List Int)}{x y:List Int}(hx:x∈ks) : decide (ziU ks x<ziU ks y)=lexI x y:=by
 cases e:lexI x y with
 | true =>
  refine decide_eq_true ?_
  have:=zc8 (p:=fun k=>lexI k x) (q:=fun k=>lexI k y) (a:=x) ks (fun z _ h=>zcq h e) hx (zdQ x) e
  unfold ziU;lia
 | false =>
  refine decide_eq_false ?_
  have:=filter_mono (p:=fun k=>lexI k y) (q:=fun k=>lexI k x) ks fun z _ h=>by
   cases q:lexI y x with
   | true=>exact zcq h q
   | false=>rw [zby e q];exact h
  unfold ziU;lia
section
variable {prog:Program}{w:World}{A:Around}{E:Value->Shared->Prop}{s:Shared}
theorem zhX {flag:Bool}{Q:Bool->Shared->Prop} : ∀ (xs ys:List Int) (us vs:List Value) (i:Nat) (fin:Bool),IntsAre us xs->IntsAre vs ys ->
  (fin=decide (xs.length<ys.length))->Q (lexI xs ys) s->W.KatLex prog w A flag fin Q (us.zip vs) i s
 | [],[],_,_,_,_,.nil,.nil,e,h=>by
  subst e
  exact W.kat_nil h
 | [],_::_,_,_,_,_,.nil,.cons _ _ _,e,h=>by
  subst e
  exact W.kat_nil h
 | _::_,[],_,_,_,_,.cons _ _ _,.nil,e,h=>by
  subst e
  exact W.kat_nil h
 | a :: xs, b :: ys, _, _, i, fin, .cons _ t hx, .cons _ u hy, e, h => by
  rw [List.zip_cons_cons]
  refine W.kat_cons (wpAny_eqBool_int ?_)
  simp only [lexI] at h
  by_cases q:a=b
  ·subst q
   rw [if_pos rfl] at h
   rw [beq_self_eq_true]
   refine W.kat_yes (zhX xs ys _ _ (i+1) fin hx hy ?_ h)
   rw [e];simp
  ·rw [if_neg q] at h
   rw [beq_eq_false_iff_ne.mpr q]
   refine W.kat_no ?_
   cases flag&&i == 0 with
   | true=>exact oneLt_int h
   | false=>exact W.kat_one _ _ (lt_int h)
end
def KeyAt (h:Heap)(v:Value)(k:List Int) : Prop:=∃ a us,v=.ref a/\IsTup h a (List.toArray us)/\IntsAre us k/\k≠[]
theorem KeyAt.keeps {h h':Heap}{v:Value}{k:List Int}(x:KeyAt h v k)(kp:∀ a o,h.get? a=some o->o.cls=.type "tuple" -> h'.get? a=some o) : KeyAt h' v k:=by
 obtain ⟨a,us,e,⟨o,ho,hc,n,hd⟩,i,ne⟩:=x
 exact ⟨a,us,e,⟨o,kp a o ho hc,hc,n,hd⟩,i,ne⟩
abbrev KeysAt (h:Heap) : List Value->List (List Int)->Prop:=Paired (KeyAt h)
theorem KeysAt.firsts {h:Heap} : ∀ {vs:List Value} {ks:List (List Int)},KeysAt h vs ks->∃ fs:List Value,fs.length=vs.length/\W.KatTups h vs fs/\∀ f∈fs,∃ i t,f=Value.int i t
 | _,_,.nil=>⟨[],rfl,.nil,fun _ z=>nomatch z⟩
 | _, _, .cons r t => by
  obtain ⟨fs,e,T,F⟩:=KeysAt.firsts t
  obtain ⟨a,us,rfl,⟨o,ho,hc,n,hd⟩,hi,ne⟩:=r
  cases hi with
  | nil=>exact absurd rfl ne
  | cons i tk hr =>
   refine ⟨.int i tk::fs,by rw [List.length_cons,List.length_cons,e],.cons ho hc hd (by simp) T,fun f hf=>?_⟩
   rcases List.mem_cons.mp hf with z | z
   ·exact ⟨i,tk,z⟩
   ·exact F f z
theorem zak {α β:Type}{R:α->β->Prop}{x:α}{y:β}(h:R x y) : ∀ {xs:List α} {ys:List β},Paired R xs ys->Paired R (xs++[x]) (ys++[y])
 | _,_,.nil=>.cons h .nil
 | _,_,.cons r t=>.cons r (zak h t)
section
variable {prog:Program}{w:World}{A:Around}{E:Value->Shared->Prop}{s:Shared}
theorem zjO {vs:List Value}{ks:List (List Int)}{Q:SortKind->Shared->Prop}(r:KeysAt s.heap vs ks)(hn:0<vs.length)(h:Q (tuples' true) s) : wpAny (model prog w) A (keyKind' vs.toArray) Q E s:=by
 obtain ⟨fs,e,T,F⟩:=r.firsts
 refine W.kat_kind (T:=.type "int") T (by lia) (fun v hv=>?_) rfl h
 obtain ⟨i,t,rfl⟩:=F v hv
 exact W.Looks.of_pure rfl
end
def za2 (kf:V->List Int)(ys:List V) : Prop:=ys.Pairwise fun a b=>lexI (kf b) (kf a)=false
section
variable {X:Cx}{pins:List (Addr×Obj)}{σ:St}{H:Hp}{s:Shared}{E:Value->Shared->Prop}
theorem FpOk.of {b:Addr}{H':Hp}(h:FpOk X pins H b)(n:H' b=none) : FpOk X pins H' b:=⟨n,h.2⟩
theorem Same.upd {H':Hp}{a:Addr}{o:HO}(h:Same H H')(n:H a=none) : Same H (upd H' a o):=fun b u e=>by rw [zam (zaG e n)];exact h b u e
theorem zci:∀ {ns:List Int} {us:List Value},Vals (ns.map V.int) us->IntsAre us ns
 | [],_,.nil=>.nil
 | n::ns,_,.cons r t=>by
  obtain ⟨tk,rfl⟩:=r
  exact .cons n tk (zci t)
theorem zle {t:Addr}{ks:List Int}(I:Inv X pins σ H s)(h:H t=some (.tup (ks.map V.int)))(ne:ks≠[]) : KeyAt s.heap (.ref t) ks:=by
 obtain ⟨z,its,r,p⟩:=I.hok t _ h
 exact ⟨t,its,rfl,p,zci r,ne⟩
end
section
variable {X:Cx}{pins:List (Addr×Obj)}{σ:St}{H:Hp}{s:Shared}{E:Value->Shared->Prop}{A:Around}
theorem zh6 {n:Nat}(h:n<64) : n<=sizeLine:=by rw [sizeLine_eq];lia
end
mutual
inductive Den (K:W.Frag) (H:Hp) : V->PyData->Prop
 | non:Den K H .non .none
 | bl (b:Bool) : Den K H (.bl b) (.bool b)
 | int (i:Int) : Den K H (.int i) (.int i)
 | str (x:Str) : Den K H (.str x) (.str x)
 | lst {a:Addr} {xs:List V} {ds:List PyData} : SqL K H a xs->DenAll K H xs ds->Den K H (.ref a) (.list ds)
 | tup {a:Addr} {xs:List V} {ds:List PyData} : SqT K H a xs->DenAll K H xs ds->Den K H (.ref a) (.tuple ds)
inductive DenAll (K:W.Frag) (H:Hp) : List V->List PyData->Prop
 | nil:DenAll K H [] []
 | cons {x:V} {d:PyData} {xs:List V} {ds:List PyData} : Den K H x d->DenAll K H xs ds->DenAll K H (x::xs) (d::ds)
end
section
variable {X:Cx}{pins:List (Addr×Obj)}{σ:St}{H H':Hp}{s:Shared}
mutual
theorem zaN (I:Inv X pins σ H s) : ∀ {v:V} {d:PyData} {u:Value},Den X.K H v d->RelV v u->∃ as,Reads s.heap u d as
 | _,_,_,.non,r=>by cases r;exact ⟨_,.none⟩
 | _,_,_,.bl b,r=>by cases r;exact ⟨_,.bool b⟩
 | _,_,_,.int i,r=>by obtain ⟨t,rfl⟩:=r;exact ⟨_,.int i t⟩
 | _,_,_,.str x,r=>by obtain ⟨t,rfl⟩:=r;exact ⟨_,.str x t⟩
 | _,_,_,.lst hq ha,r=>by
  cases r
  obtain ⟨its,rv,⟨o,n,e,c,dd,da⟩,_⟩:=I.list hq
  obtain ⟨as,q⟩:=zej I ha rv
  exact ⟨_,.list e c da (by simpa using q)⟩
 | _,_,_,.tup hq ha,r=>by
  cases r
  obtain ⟨its,rv,⟨o,e,c,n,da⟩,_⟩:=I.tuple hq
  obtain ⟨as,q⟩:=zej I ha rv
  exact ⟨_,.tuple e c da (by simpa using q)⟩
theorem zej (I:Inv X pins σ H s) : ∀ {vs:List V} {ds:List PyData} {us:List Value},DenAll X.K H vs ds->Vals vs us->∃ as,ReadsAll s.heap us ds as
 | _,_,_,.nil,.nil=>⟨_,.nil⟩
 | _,_,_,.cons d t,.cons r q=>by
  obtain ⟨as,h1⟩:=zaN I d r
  obtain ⟨bs,h2⟩:=zej I t q
  exact ⟨_,.cons h1 h2⟩
end
def rEqD (K:W.Frag) : R2:=fun x y H Q=>∃ d e,Den K H x d/\Den K H y e/\SeqAt.shaped d=true/\SeqAt.shaped e=true/\Q (.bl (PyData.eqv d e)) H
def rNeD (K:W.Frag) : R2:=fun x y H Q=>∃ d e,Den K H x d/\Den K H y e/\SeqAt.shaped d=true/\SeqAt.shaped e=true/\Q (.bl (!PyData.eqv d e)) H
theorem zm9 (hu:X.A.units+64<cLine) : OpR X (compareOp .Eq) (rEqD X.K):=by
 intro pins s σ H x y v u Q I rx ry ⟨d,e,h1,h2,s1,s2,q⟩
 obtain ⟨as,r1⟩:=zaN I h1 rx
 obtain ⟨bs,r2⟩:=zaN I h2 ry
 exact eq_dataH r1 r2 s1 s2 hu ⟨.bl _,H,I,rfl,q⟩
theorem znC (hu:X.A.units+64<cLine) : OpR X (compareOp .NotEq) (rNeD X.K):=by
 intro pins s σ H x y v u Q I rx ry ⟨d,e,h1,h2,s1,s2,q⟩
 obtain ⟨as,r1⟩:=zaN I h1 rx
 obtain ⟨bs,r2⟩:=zaN I h2 ry
 exact ne_dataH r1 r2 s1 s2 hu ⟨.bl _,H,I,rfl,q⟩
theorem zfa:∀ {bs:List Bool} {us:List Value},Vals (bs.map V.bl) us->us=bs.map Value.bool
 | [],_,.nil=>rfl
 | b::bs,_,.cons r t=>by cases r;rw [zfa t];rfl
def zng (K:W.Frag) : List V->Hp->VK->Prop:=fun vs H Q=>∃ l ns,vs=[.ref l]/\SqL K H l (List.map V.int ns)/\Q (.int (List.sum ns)) H
theorem zfq (hc:X.calm=true) : zb4 X (.builtin "sum") (zng X.K):=by
 intro pins s σ H vs us Q I r ⟨l,ns,e,hl,q⟩
 subst e
 obtain ⟨u,rfl,ru⟩:=Vals.one r
 cases ru
 obtain ⟨its,rv,pl,_⟩:=I.list hl
 have hi:=zci rv
 obtain ⟨m,F⟩:=I.fr
 have hd:X.A.handled=none:=I.ok.hd hc
 obtain ⟨xs,hx⟩:=hi.allInts.items
 have hL:s.heap.IsList l (intItems xs):=by rw [<- hx];exact pl.isList
 refine sum_intListG hd hL fun h' tk t' hk=>⟨.int _,H,I.kept hk,⟨t',?_⟩,q⟩
 have e1:(numsOf (intItems xs).toList)=ns:=by rw [<- hx];exact hi.numsOf
 rw [<- e1,nums_intItems,preSum_eq,List.take_of_length_le (by simp)]
end
end L2
namespace L2
open PySem PySem.Spec PyProof.Rows
abbrev NoX:Value->Shared->Prop:=fun _ _=>False
section
variable {prog:Program}{w:World}{A:Around}{R:Result->Shared->Prop}{s:Shared}
abbrev zjR (ifs:List Expr)(env:Env) : Sem Bool:=forIn ifs true fun c r=>if r=true then do let ok <- isTrue c env (eval c env);pure (ForInStep.yield ok) else pure (ForInStep.yield r)
theorem zeW {elt target iter:Expr}{ifs:List Expr}{scope:Scope}{pos:Pos}{it acc:Value}{env:Env}(I:Nat->Shared->Prop)
  (turn:∀ n s,I n s->wpAny (model prog w) A (pyNext it) (fun r s1=>match r with
   | none=>R (.ok .next) s1
   | some v => wpAny (model prog w) A (letOwnedTupleGo target it v) (fun _ s2 => wpAny (model prog w) A (assign target env v) (fun _ s3 => wpAny (model prog w) A (zjR ifs env) (fun ok s4 =>
     if ok=true then wpAny (model prog w) A (eval elt env) (fun x s5=>wpAny (model prog w) A (call (.builtin "list.append") [acc,x]) (fun _ s6=>∃ m,m<n/\I m s6) NoX s5) NoX s4
     else ∃ m,m<n/\I m s4) NoX s3) NoX s2) NoX s1) NoX s)
  (n:Nat) (h:I n s) : codeAny (model prog w) A (.compLoop (.ListComp elt [⟨target,iter,ifs,0⟩] scope pos) 0 it acc env) R s:=by
 refine codeAny_loop rfl I (fun n s hI=>?_) n h
 show wpAny _ A (Sem.onRaise (compTurn (.ListComp elt [⟨target,iter,ifs,0⟩] scope pos) 0 it acc env) (fun x=>do noteFrame x env;theTreesLotGoes x)) _ _ s
 refine wpAny_noted (wpAny_mono (E:=NoX) ?_ (fun _ _ z=>z) fun _ _ z=>z.elim)
 rw [compTurn_list]
 refine wpAny_bind (wpAny_standAt (wpAny_bind (thn (turn n s hI) fun r s1 h1=>?_)))
 cases r with
 | none=>exact wpAny_pure h1
 | some v =>
  refine wpAny_bind (thn h1 fun _ s2 h2=>wpAny_bind (thn h2 fun _ s3 h3=>wpAny_bind (thn h3 fun ok s4 h4=>?_)))
  cases ok with
  | false=>exact wpAny_pure ⟨rfl,h4⟩
  | true=>exact wpAny_bind (wpAny_bind (thn h4 fun x s5 h5=>wpAny_bind (thn h5 fun _ s6 h6=>wpAny_pure (wpAny_pure ⟨rfl,h6⟩))))
end
abbrev zaX (X:Cx)(pins:List (Addr×Obj))(scope:Scope)(cl:List (Str×Addr))(C:Addr)(Nc:List Str)(s3:Shared)(H3:Hp)(fp:List Addr) : Cx :=
 { X with N:=Nc,s₀:=s3,H₀:=H3,env:=compEnvC scope cl C X.env,outer:=X.stack,ex:=fp,fn:=fun _=>false,pn:=X.pn++pins,xe:=NoX }
def capt (js:List (Option Nat))(σ:St) : St:=js.map fun j=>match j with | some j=>(σ[j]?).join | none=>none
structure CompScope (X:Cx) (scope:Scope) (cl:List (Str×Addr)) (Nc:List Str) (js:List (Option Nat)) : Prop where
 clos:closureFor scope X.env=pure cl
 cell:∀ y∈scope.names,y.2≠.cell
 kind:scope.kind=.function
 nms:∀ y∈scope.names,y.2=.local->scope.names.lookup y.1=some .local
 sub:∀ x c,cl.lookup x=some c->X.env.cells.lookup x=some c
 has:∀ x,((relabel scope X.env).names.lookup x=some .cell\/(relabel scope X.env).names.lookup x=some .free)->∃ c,cl.lookup x=some c
 len:js.length=Nc.length
 cap:∀ (i:Nat) (x:Str) (j:Nat),Nc[i]?=some x->js[i]?=some (some j)->X.N[j]?=some x/\(X.env.kindOf x=some .cell\/X.env.kindOf x=some .free)/\((relabel scope X.env).names.lookup x=some .cell\/(relabel scope X.env).names.lookup x=some .free)
section
variable {X:Cx}{pins:List (Addr×Obj)}{σ:St}{H:Hp}{s:Shared}{scope:Scope}{cl:List (Str×Addr)}{Nc:List Str}{js:List (Option Nat)}{C:Addr}{fp:List Addr}{h1:Heap}{tk:Nat}{m:Str->Option Value}
theorem zkr (S:CompScope X scope cl Nc js)(I:Inv X pins σ H s)(hf:∀ b∈fp,FpOk X pins H b)(hfo:∀ b∈fp,∃ o,s.heap.get? b=some o)(hC:s.heap.objs.size<=C)(hn:h1.Ns C m)(k:∀ b o,s.heap.get? b=some o->h1.get? b=some o) :
  Inv (zaX X pins scope cl C Nc s H fp) [] (capt js σ) H { s with heap:=h1,toks:=tk }:=by
 have lt:∀ {b:Addr} {o:Obj},s.heap.get? b=some o->b≠C:=fun e=>Nat.ne_of_lt (Nat.lt_of_lt_of_le (Heap.lt_size e) hC)
 have hCn:H C=none:=I.hok.fresh hC
 have hce:∀ x c,cl.lookup x=some c->c≠C:=fun x c e=>by
  obtain ⟨v,o,ho,_⟩:=I.cell x c (S.sub x c e)
  exact lt ho
 refine ⟨⟨I.ok.mod,S.kind,I.ok.glob,I.ok.blt,hC,fun x y c e1 e2=>I.ok.inj x y c (S.sub x c e1) (S.sub y c e2),fun x hx=>S.has x hx,(fun x c z=>absurd z Bool.false_ne_true),(fun z=>I.ok.hd z),I.ok.frames,.inl rfl,fun b hb=>?_,I.bs,
  Nat.le_trans I.ok.bsz I.sz,fun b o e hb=>?_,fun b hb hs=>?_,I.stack,I.stkFree⟩,rfl,I.bare,Un.kept k,⟨m,hn,fun i x v e1 e2 e3=>?_⟩,fun x c e=>?_,hCn,fun x c e=>I.freeC x c (S.sub x c e),fun p hp=>?_,I.hok.kept k,?_⟩
 ·obtain ⟨o,ho⟩:=hfo b hb
  exact ⟨lt ho,fun x c e=>(hf b hb).2.2.2.2.1 x c (S.sub x c e)⟩
 ·rcases (hf b hb).2.2.2.1 with z | z
  ·exact I.ok.noex b o e z
  ·exact absurd (Nat.lt_of_lt_of_le (Heap.lt_size e) (Nat.le_trans I.ok.bsz z)) (Nat.lt_irrefl _)
 ·rcases List.mem_cons.mp (I.stkSub b hs) with z | z
  ·exact (hf b hb).2.1 z
  ·exact (hf b hb).2.2.1 z
 ·unfold capt at e2
  rw [List.getElem?_map] at e2
  cases ej:js[i]? with
  | none=>rw [ej] at e2;cases e2
  | some oj =>
   rw [ej] at e2
   cases oj with
   | none=>cases e2
   | some j =>
    have e2':(σ[j]?).join=some v:=Option.some.inj e2
    obtain ⟨c1,c2,c3⟩:=S.cap i x j e1 ej
    have e4:σ[j]?=some (some v):=by
     cases q:σ[j]? with
     | none=>rw [q] at e2';cases e2'
     | some o=>rw [q] at e2';cases o with
      | none=>cases e2'
      | some z=>cases e2';rfl
    obtain ⟨mo,hmo,hl⟩:=I.loc
    have vis:Vis X.env.scope x:=by rcases c2 with z | z;exact .inr (.inl z);exact .inr (.inr z)
    obtain ⟨u,r,l⟩:=hl j x v c1 e4 vis
    refine ⟨u,r,.inr ⟨c3,?_⟩⟩
    rcases l with ⟨z,_⟩ | ⟨_,c,hc,hcell⟩
    ·rcases c2 with y | y<;>rw [z] at y<;>cases y
    ·obtain ⟨c',hc'⟩:=S.has x c3
     have:=S.sub x c' hc'
     rw [hc] at this;cases this
     obtain ⟨o,ho,hd⟩:=hcell
     exact ⟨c,hc',o,k c o ho,hd⟩
 ·obtain ⟨v,o,ho,hd⟩:=I.cell x c (S.sub x c e)
  exact ⟨v,o,k c o ho,hd⟩
 ·have hp':p∈X.pn++pins:=by simpa using hp
  obtain ⟨e,n,ne,nf,d⟩:=I.pin p hp'
  refine ⟨k _ _ e,n,lt e,fun z=>?_,d⟩
  rcases List.mem_cons.mp (I.stkSub p.1 z) with y | y
  ·exact ne y
  ·exact nf y
 ·show (capt js σ).length=Nc.length
  unfold capt
  rw [List.length_map]
  exact S.len
def zcD (J:It)(g:TG)(tt:TT)(te:TE)(D:Addr)(Q:VK)(σ:St)(H:Hp) : Prop :=
 ∃ W : Nat → Nat → St → Hp → Prop, (∃ m, W 0 m σ H) ∧ ∀ i m σ2 H2, W i m σ2 H2 →
  (J.stop i H2/\Q (.ref D) H2)\/(J.go i H2/\∃ N:St->Hp->Prop,(∀ σ' H',N σ' H'->∃ m',m' < m/\W (i+1) m' σ' H') /\
   ∀ x H',J.yld i H2 x H'->g x σ2 H' fun σ3 H3=>tt σ3 H3 fun b H4=>if b=true then te σ3 H4 fun v H5=>∃ ys,H5 D=some (.lst ys)/\ys.length<sizeLine/\N σ3 (upd H5 D (.lst (ys++[v]))) else N σ3 H4)
def PIf (X:Cx)(ifs:List Expr)(t:TT) : Prop :=
 ∀ (pins:List (Addr×Obj)) (s:Shared) (σ:St) (H:Hp) (Q:Bool->Hp->Prop),Inv X pins σ H s->t σ H Q->wpAny (model X.prog X.w) X.A (zjR ifs X.env) (TP X pins σ Q) X.xe s
def tYes:TT:=fun _ H Q=>Q true H
theorem zjQ:PIf X [] tYes:=fun _ _ _ H _ I h=>wpAny_tests_nil ⟨H,I,h⟩
theorem ziM {c:Expr}{t:TT}(h:PT X c t) : PIf X [c] t:=fun pins s σ H Q I hw=>wpAny_tests_one (h pins s σ H Q I hw)
theorem zk8 {elt target iter:Expr}{ifs:List Expr}{pos:Pos}{g:TG}{tt:TT}{te:TE}{Q:VK}{J:It}{it D:Addr}{tn:Nat->Heap->Prop}{R:Result->Shared->Prop}{s4:Shared}{σc:St}{Hc:Hp}
  (hc:X.calm=true) (T:Turn X.prog X.w X.K target J fp it tn) (hf:∀ b∈fp,FpOk X pins H b)
  (hg:PG (zaX X pins scope cl C Nc s H fp) target g) (ht:PIf (zaX X pins scope cl C Nc s H fp) ifs tt) (he:PE (zaX X pins scope cl C Nc s H fp) elt te)
  (I:Inv (zaX X pins scope cl C Nc s H fp) [] σc Hc s4) (st:tn 0 s4.heap) (fr:∀ b∈fp,Hc b=none) (hw:zcD J g tt te D Q σc Hc)
  (h:∀ s' σ' H',Inv (zaX X pins scope cl C Nc s H fp) [] σ' H' s'->(∀ b∈fp,H' b=none)->Q (.ref D) H'->R (.ok .next) s') :
  codeAny (model X.prog X.w) X.A (.compLoop (.ListComp elt [⟨target,iter,ifs,0⟩] scope pos) 0 (.ref it) (.ref D) (compEnvC scope cl C X.env)) R s4:=by
 obtain ⟨W,⟨m0,w0⟩,turn⟩:=hw
 have ok:=I.ok
 have stat:∀ {H':Hp},(∀ b∈fp,H' b=none)->∀ b∈fp,FpOk (zaX X pins scope cl C Nc s H fp) [] H' b:=fun hn b hb =>
  ⟨hn b hb,(ok.exf b hb).1,ok.exfs b hb,.inl hb,(ok.exf b hb).2,fun p hp=>(hf b hb).2.2.2.2.2 p (by simpa using hp)⟩
 refine zeW (fun n s'=>∃ i σ' H',Inv (zaX X pins scope cl C Nc s H fp) [] σ' H' s'/\tn i s'.heap/\(∀ b∈fp,H' b=none)/\W i n σ' H') ?_ m0 ⟨0,σc,Hc,I,st,fr,w0⟩
 rintro n s5 ⟨i,σ5,H5,I5,st5,fr5,w5⟩
 rcases turn i n σ5 H5 w5 with ⟨stop,qn⟩ | ⟨go,N,hN,step⟩
 ·refine thn (T.done (zaX X pins scope cl C Nc s H fp) rfl rfl rfl hc i [] s5 σ5 H5 NoX I5 (stat fr5) st5 stop) fun r s6 ⟨hr,I6⟩=>?_
  subst hr
  exact h s6 σ5 H5 I6 fr5 qn
 ·refine thn (T.item (zaX X pins scope cl C Nc s H fp) rfl rfl rfl hc i [] s5 σ5 H5 NoX I5 (stat fr5) st5 go) fun r s6 ⟨u,hr,h6⟩=>?_
  subst hr
  refine thn h6 fun _ s7 ⟨x,H7,I7,r7,y7,st7,fr7⟩=>?_
  have I7':=I7.pinned (stat fr7) (T.obj _ _ st7)
  refine thn (hg _ s7 σ5 H7 x u _ I7' r7 (step x H7 y7)) fun _ s8 ⟨σ8,H8,I8,q8⟩=>?_
  refine thn (ht _ s8 σ8 H8 _ I8 q8) fun b s9 ⟨H9,I9,q9⟩=>?_
  have again:∀ {σ':St} {H':Hp} {s':Shared},Inv (zaX X pins scope cl C Nc s H fp) ([]++zeZ fp s7.heap) σ' H' s'->N σ' H'->∃ m,m<n/\∃ i σ' H',Inv (zaX X pins scope cl C Nc s H fp) [] σ' H' s'/\tn i s'.heap/\(∀ b∈fp,H' b=none)/\W i m σ' H':=fun {σ' H' s'} J' n'=>by
   obtain ⟨m',hm,w'⟩:=hN σ' H' n'
   have P:∀ b∈fp,∀ o,s7.heap.get? b=some o->s'.heap.get? b=some o/\H' b=none:=fun b hb o e =>
    have q:=J'.pin (b,o) (List.mem_append_right _ (List.mem_append_right _ (zbv hb e)))
    ⟨q.1,q.2.1⟩
   refine ⟨m',hm,i+1,σ',H',J'.unpinned,T.keep _ _ _ st7 fun b hb o e=>(P b hb o e).1,fun b hb=>?_,w'⟩
   obtain ⟨o,e,_⟩:=T.obj _ _ st7 b hb
   exact (P b hb o e).2
  cases b with
  | false =>
   rw [if_neg (by decide)]
   exact again I9 q9
  | true =>
   rw [if_pos rfl]
   refine thn (he _ s9 σ8 H9 _ I9 q9) fun v s10 ⟨y,H10,I10,r10,ys,hD,hz,n10⟩=>?_
   refine thn (zef _ s10 σ8 H10 (.ref D) [y] (.ref D) [v] (fun _ H11=>N σ8 H11) I10 rfl (.cons r10 .nil) ⟨D,ys,y,rfl,rfl,hD,hz,n10⟩) fun _ s11 ⟨_,H11,I11,_,n11⟩=>?_
   exact again I11 n11
end
def zd3 (js:List (Option Nat))(wi:TI)(g:TG)(tt:TT)(te:TE) : TE:=fun σ H Q=>wi σ H fun J H1=>∀ D,H1 D=none->zcD J g tt te D Q (capt js σ) (upd H1 D (.lst []))
def Inner (X:Cx)(scope:Scope)(cl:List (Str×Addr))(Nc:List Str)(target elt:Expr)(ifs:List Expr)(g:TG)(tt:TT)(te:TE) : Prop :=
 ∀ (pins:List (Addr×Obj)) (C:Addr) (s3:Shared) (H3:Hp) (fp:List Addr),PG (zaX X pins scope cl C Nc s3 H3 fp) target g/\PIf (zaX X pins scope cl C Nc s3 H3 fp) ifs tt/\PE (zaX X pins scope cl C Nc s3 H3 fp) elt te
section
variable {X:Cx}{pins:List (Addr×Obj)}{σ:St}{H:Hp}{s:Shared}{scope:Scope}{cl:List (Str×Addr)}{Nc:List Str}{js:List (Option Nat)}{target elt iter:Expr}{ifs:List Expr}{pos:Pos}{wi:TI}{g:TG}{tt:TT}{te:TE}
theorem zeU {Q:VK}{J:It}{it:Addr}{fp:List Addr}{tn:Nat->Heap->Prop}{RR:Value->Addr->Result->Shared->Prop}{E:Value->Shared->Prop}(hc:X.calm=true)(S:CompScope X scope cl Nc js)(B:Inner X scope cl Nc target elt ifs g tt te)
  (I:Inv X pins σ H s) (T:Turn X.prog X.w X.K target J fp it tn) (st:tn 0 s.heap) (hf:∀ b∈fp,FpOk X pins H b) (hw:∀ D,H D=none->zcD J g tt te D Q (capt js σ) (upd H D (.lst [])))
  (h:∀ D C s' H' m,Inv X pins σ H' s'->s'.heap.Ns C m->FpOk X pins H' C->Q (.ref D) H'->RR (.ref D) C (.ok .next) s') :
  wpAny (model X.prog X.w) X.A (newList []) (fun acc s3=>wpAny (model X.prog X.w) X.A (newFunctionEnv scope X.env.globals cl [] X.env.qual none .none (some X.env)) (fun cenv s4 =>
   codeAny (model X.prog X.w) X.A (.compStart (.ListComp elt [⟨target,iter,ifs,0⟩] scope pos) 0 (.ref it) acc { cenv with scope:=relabel scope X.env }) (RR acc cenv.locals) s4) E s3) E s:=by
 have hD:H s.heap.objs.size=none:=I.fresh
 have I3:Inv X pins σ (upd H s.heap.objs.size (.lst [])) { s with heap:=s.heap.push { cls:=.type "list", data:=.seq ([] : List Value).toArray } }:=I.lnew (t':=s.toks) (its:=[]) (ys:=[]) .nil (Nat.zero_le _)
 refine wpAny_newList (wpAny_newFunctionEnv S.cell (fun y hy=>by cases hy) (fun h1 hn hsb=>?_) S.kind) (Nat.zero_le _)
 generalize hs3:({ s with heap:=s.heap.push { cls:=.type "list", data:=.seq ([] : List Value).toArray } } : Shared)=s3 at I3
 have hn':h1.Ns s3.heap.objs.size (fun x=>([] : List (Str×Value)).reverse.lookup x):=by rw [<- hs3];exact hn
 have hsb':Heap.SameBut s3.heap.objs.size (s3.heap.push { cls:=.type "dict", data:=.dict #[] }) h1:=by rw [<- hs3];exact hsb
 have kp:∀ b o,s3.heap.get? b=some o->h1.get? b=some o:=fun b o e=>(hsb'.2 b (Nat.ne_of_lt (Heap.lt_size e))).trans (Heap.get?_push_of_some _ e)
 have fpo:∀ b∈fp,∃ o,s.heap.get? b=some o:=fun b hb=>let ⟨o,e,_⟩:=T.obj 0 _ st b hb;⟨o,e⟩
 have k2:∀ b o,s.heap.get? b=some o->s3.heap.get? b=some o:=fun b o e=>by rw [<- hs3];exact Heap.get?_push_of_some _ e
 have hf3:∀ b∈fp,FpOk X pins (upd H s.heap.objs.size (.lst [])) b:=fun b hb=>by
  refine FpOk.of (hf b hb) ?_
  obtain ⟨o,e⟩:=fpo b hb
  rw [zam (Nat.ne_of_lt (Heap.lt_size e))]
  exact (hf b hb).1
 have Ic:Inv (zaX X pins scope cl s3.heap.objs.size Nc s3 (upd H s.heap.objs.size (.lst [])) fp) [] (capt js σ) (upd H s.heap.objs.size (.lst [])) { s3 with heap:=h1,toks:=s3.toks+0 } :=
  zkr S I3 hf3 (fun b hb=>let ⟨o,e⟩:=fpo b hb;⟨o,k2 b o e⟩) (Nat.le_refl _) hn' kp
 have st4:tn 0 h1:=T.keep 0 _ _ st fun b hb o e=>kp b o (k2 b o e)
 obtain ⟨b1,b2,b3⟩:=B pins s3.heap.objs.size s3 (upd H s.heap.objs.size (.lst [])) fp
 have loop:codeAny (model X.prog X.w) X.A (.compLoop (.ListComp elt [⟨target,iter,ifs,0⟩] scope pos) 0 (.ref it) (.ref s.heap.objs.size) (compEnvC scope cl s3.heap.objs.size X.env)) (RR (.ref s.heap.objs.size) s3.heap.objs.size) { s3 with heap:=h1,toks:=s3.toks+0 }:=by
  refine zk8 hc T hf3 b1 b2 b3 Ic st4 (fun b hb=>(hf3 b hb).1) (hw _ hD) fun s' σ' H' I' fr' q'=>?_
  obtain ⟨m,hm,_⟩:=I'.loc
  have Io:Inv X pins σ H' s':=I3.call' (ch:=fp) I'.os I'.base I'.hok I'.bare fun b hb=>⟨(hf3 b hb).2.2.2.1,(hf3 b hb).2.1,(hf3 b hb).2.2.2.2.1,(hf3 b hb).2.2.2.2.2⟩
  exact h _ _ s' H' m Io hm (I3.fpOk (Nat.le_refl _) I'.free) q'
 exact codeAny_compStart_list loop (T.self X.A 0 _ _ _ (show tn 0 h1 from st4) loop)
theorem Inv.lettingGo {C:Addr}{h':Heap}(I:Inv X pins σ H s)(f:FpOk X pins H C)(hs:Heap.SameBut C s.heap h') : Inv X pins σ H { s with heap:=h' } :=
 I.turned (t':=s.toks) (fun b o hb e=>(hs.2 b hb).trans e) f.1 f.2.1 f.2.2.2.1 f.2.2.2.2.1 f.2.2.2.2.2
theorem zmn (hc:X.calm=true)(S:CompScope X scope cl Nc js)(hi:PI X target iter wi)(B:Inner X scope cl Nc target elt ifs g tt te)(hs:∀ x,foldedSetIterable iter X.env x=pure x:=by intro _;rfl) :
  PE X (.ListComp elt [⟨target,iter,ifs,0⟩] scope pos) (zd3 js wi g tt te):=by
 intro pins s σ H Q I h
 rw [eval_ListComp]
 refine wpAny_comprehension_free (use:=none) rfl hs S.clos S.kind S.nms (thn (hi pins s σ H _ I h) fun xv s1 h1=>thn h1 fun itv s2 h2=>?_)
 obtain ⟨it,fp,tn,J,H2,e,I2,T,st2,f2,hw⟩:=h2
 subst e
 refine zeU hc S B I2 T st2 f2 hw fun D C s' H' m I' hm fC q=>?_
 exact ⟨m,hm,fun h' hs'=>⟨.ref D,H',I'.lettingGo fC hs',rfl,q⟩⟩
theorem ziD {i:Nat}{x:Str}{pos' spos:Pos}(hN:X.N.Nodup)(hix:X.N[i]?=some x)(hx:Loc X.env.scope x)(hc:X.calm=true)(S:CompScope X scope cl Nc js)(hi:PI X target iter wi)(B:Inner X scope cl Nc target elt ifs g tt te)
  (hs:∀ x,foldedSetIterable iter X.env x=pure x:=by intro _;rfl)
  (hsw:swapsWith (.ListComp elt [⟨target,iter,ifs,0⟩] scope pos) (some (.Name x pos')) spos.line X.env=pure true:=by rfl)
  (hf:X.fn x=true\/X.env.scope.names.lookup x=some .local:=by first | exact .inl rfl | exact .inr rfl | assumption) :
  PS X (.Assign [.Name x pos'] (.ListComp elt [⟨target,iter,ifs,0⟩] scope pos) spos) (tAsg (zd3 js wi g tt te) (zas i)):=by
 intro pins s σ H D I h
 rw [exec_Assign_Name_used _ _ _ _ hsw]
 refine wpAny_bind (wpAny_standAt (wpAny_bind ?_))
 show wpAny _ X.A (do let _ <- comprehension (.ListComp elt [⟨target,iter,ifs,0⟩] scope pos) scope X.env _ (newList []) false (eval iter X.env) (some (assign (.Name x pos') X.env))) _ _ s
 refine wpAny_bind (thn (wpAny_comprehension_free (use:=some (assign (.Name x pos') X.env)) (Q:=fun _ s'=>SP X pins D .next s') rfl hs S.clos S.kind S.nms (thn (hi pins s σ H _ I h) fun xv s1 h1=>thn h1 fun itv s2 h2=>?_)) fun _ s' hq=>wpAny_pure (wpAny_pure hq))
 obtain ⟨it,fp,tn,J,H2,e,I2,T,st2,f2,hw⟩:=h2
 subst e
 refine zeU (RR:=fun acc C=>compPost (model X.prog X.w) X.A X.xe (some (assign (.Name x pos') X.env)) (fun _ s'=>SP X pins D .next s') acc C) hc S B I2 T st2 f2 hw fun Da C s' H' m I' hm fC q=>?_
 show wpAny (model X.prog X.w) X.A (assign (.Name x pos') X.env (.ref Da)) _ X.xe s'
 obtain ⟨oC,es,ep,hoC,hdC,r⟩:=hm
 have Ip:=I'.pinned (fp:=[C]) (fun b hb=>by rw [List.mem_singleton.mp hb];exact fC) (fun b hb=>by rw [List.mem_singleton.mp hb];exact ⟨oC,hoC,fun v z=>by rw [hdC] at z;cases z⟩)
 refine wpAny_assign_Name (zft Ip hN hix hx (v:=.ref Da) rfl (fun s'' I''=>?_) hf)
 have pC:=I''.pin (C,oC) (List.mem_append_right _ (List.mem_append_right _ (zbv (by simp) hoC)))
 refine ⟨m,⟨oC,es,ep,pC.1,hdC,r⟩,fun h' hs'=>⟨_,H',I''.unpinned.lettingGo fC hs',q⟩⟩
end
theorem zat {X:Cx}{scope:Scope}{cl:List (Str×Addr)}{Nc:List Str}{js:List (Option Nat)}(clos:closureFor scope X.env=pure cl)(kind:scope.kind=.function)
  (b1:(scope.names.all fun y=>decide (y.2≠.cell))=true) (b2:(scope.names.all fun y=>decide (y.2=.local->scope.names.lookup y.1=some .local))=true)
  (sub:∀ x c,(x,c)∈cl->X.env.cells.lookup x=some c) (b3:((relabel scope X.env).names.all fun y=>!(y.2 == .cell||y.2 == .free)||(cl.lookup y.1).isSome)=true) (len:js.length=Nc.length)
  (b4:((Nc.zip js).all fun y=>match y.2 with
   | none=>true
   | some j=>decide (X.N[j]?=some y.1)&&decide (X.env.kindOf y.1=some .cell\/X.env.kindOf y.1=some .free)&&decide ((relabel scope X.env).names.lookup y.1=some .cell\/(relabel scope X.env).names.lookup y.1=some .free))=true) : CompScope X scope cl Nc js where
 clos:=clos
 cell:=fun y hy=>of_decide_eq_true (List.all_eq_true.mp b1 y hy)
 kind:=kind
 nms:=fun y hy=>of_decide_eq_true (List.all_eq_true.mp b2 y hy)
 sub:=fun x c h=>sub x c (PySem.mem_of_lookup h)
 has:=fun x hx=>by
  have go:∀ k:NameKind,(k == .cell||k == .free)=true->(relabel scope X.env).names.lookup x=some k->∃ c,cl.lookup x=some c:=fun k hk e=>by
   have:=List.all_eq_true.mp b3 (x,k) (PySem.mem_of_lookup e)
   dsimp only at this
   rw [hk] at this
   exact Option.isSome_iff_exists.mp (by simpa using this)
  rcases hx with z | z
  ·exact go .cell rfl z
  ·exact go .free rfl z
 len:=len
 cap:=fun i x j h1 h2=>by
  have hm:(x,some j)∈Nc.zip js:=by
   have:(Nc.zip js)[i]?=some (x,some j):=by rw [List.getElem?_zip_eq_some];exact ⟨h1,h2⟩
   exact List.mem_of_getElem? this
  have:=List.all_eq_true.mp b4 _ hm
  dsimp only at this
  rw [Bool.and_eq_true,Bool.and_eq_true] at this
  exact ⟨of_decide_eq_true this.1.1,of_decide_eq_true this.1.2,of_decide_eq_true this.2⟩
section
variable {g:TG}{tt:TT}{te:TE}{Q:VK}{σ:St}{H:Hp}{D:Addr}
theorem zaK {K:W.Frag}{a:Addr}{xs:List V}(Pv:Nat->List V->St->Hp->Prop)(h0:Pv 0 [] σ H)(hl:∀ i ys σ H,i<=xs.length->Pv i ys σ H->SqL K H a xs)
  (hs:∀ i x ys σ H,xs[i]?=some x->Pv i ys σ H->g x σ H fun σ2 H2=>tt σ2 H2 fun b H3=>if b=true then te σ2 H3 fun v H4=>∃ zs,H4 D=some (.lst zs)/\zs.length<sizeLine/\∃ ys',Pv (i+1) ys' σ2 (upd H4 D (.lst (zs++[v]))) else ∃ ys',Pv (i+1) ys' σ2 H3)
  (hd:∀ ys σ H,Pv xs.length ys σ H->Q (.ref D) H) : zcD (Itl K a) g tt te D Q σ H:=by
 refine ⟨fun i m σ H=>m=xs.length-i/\i<=xs.length/\∃ ys,Pv i ys σ H,⟨xs.length,by simp,Nat.zero_le _,[],h0⟩,?_⟩
 rintro i m σ H ⟨rfl,hi,ys,p⟩
 have q:=hl i ys σ H hi p
 by_cases hlt:i<xs.length
 ·refine .inr ⟨⟨xs,xs[i],q,by simp [hlt]⟩,fun σ' H'=>∃ ys',Pv (i+1) ys' σ' H',fun σ' H' p'=>⟨xs.length-(i+1),by lia,rfl,hlt,p'⟩,fun x H' y=>?_⟩
  obtain ⟨e,y⟩:=y
  subst e
  exact hs i x ys σ _ (y xs q) p
 ·have e:i=xs.length:=by lia
  subst e
  exact .inl ⟨⟨xs,q,Nat.le_refl _⟩,hd ys σ H p⟩
theorem zbD {lo:Int}{n:Nat}(Pv:Nat->St->Hp->Prop)(h0:Pv 0 σ H)
  (hs:∀ i σ H,i<n->Pv i σ H->g (.int (lo+i)) σ H fun σ2 H2=>tt σ2 H2 fun b H3=>if b=true then te σ2 H3 fun v H4=>∃ zs,H4 D=some (.lst zs)/\zs.length<sizeLine/\Pv (i+1) σ2 (upd H4 D (.lst (zs++[v]))) else Pv (i+1) σ2 H3)
  (hd:∀ σ H,Pv n σ H->Q (.ref D) H) : zcD (Itr lo n) g tt te D Q σ H:=by
 refine ⟨fun i m σ H=>m=n-i/\i<=n/\Pv i σ H,⟨n,by simp,Nat.zero_le _,h0⟩,?_⟩
 rintro i m σ H ⟨rfl,hi,p⟩
 by_cases hlt:i<n
 ·refine .inr ⟨hlt,fun σ' H'=>Pv (i+1) σ' H',fun σ' H' p'=>⟨n-(i+1),by lia,rfl,hlt,p'⟩,fun x H' y=>?_⟩
  obtain ⟨e,y⟩:=y
  subst e y
  exact hs i σ _ hlt p
 ·have e:i=n:=by lia
  subst e
  exact .inl ⟨Nat.le_refl _,hd σ H p⟩
end
end L2
namespace Wr
abbrev Stt:=Option Int×Option Int
def inS (m:Int)(s:Stt) : Bool:=(match s.1 with | none=>true | some a=>decide (a<=m))&&(match s.2 with | none=>true | some b=>decide (m<b))
def zoA (m:Int)(l:List Stt) : Bool:=l.any (inS m)
def okS (s:Stt) : Prop:=∀ a b,s.1=some a->s.2=some b->a<b
def Apart (p q:Stt) : Prop:=∃ b c,p.2=some b/\q.1=some c/\b<c
def Can (l:List Stt) : Prop:=(∀ s∈l,okS s)/\l.Pairwise Apart
def zoB (g:List Int)(m:Int) : Nat:=(g.filter fun x=>decide (x<=m)).length
end Wr
namespace L2
open PySem PySem.Spec PyProof.Rows
structure FnP (P:Program) (w:World) (K:W.Frag) (mg:Str->Option Value) (base:Heap) (k:Nat) (x:Str) (ps:List Str) (sp:Sp) : Prop where
 ex:∃ (f:Addr) (fd:FuncData),FnOk P w K mg base CX0 k f fd ps sp/\mg x=some (.ref f)/\W.keepIn K (.ref f)=true/\Binds K fd ps []
section
variable {X:Cx}{k j:Nat}{x:Str}{ps:List Str}{sp:Sp}{p pos:Pos}{e:Expr}{es:List Expr}{t:TA}
theorem zof (F:FnP X.prog X.w X.K X.mg X.base k x ps sp)(hr:Room j X.A)(ha:PA X (e::es) t)(hj:k<=j:=by decide)(hg:Gl X x:=by rfl)(hdb:(x == ("__debug__" : Str))=false:=by decide)
  (he:starEach (e::es) X.env=(false,eval e X.env)::starEach es X.env:=by rfl) (hpl:(backTo pos (starEach es X.env)).any (·.1)=false:=by rfl) : PE X (.Call (.Name x p) (e::es) [] pos) (zbp sp [] E0 t):=by
 obtain ⟨f,fd,F,hm,hk,hb⟩:=F.ex
 exact zl1 F (hr.mono hj) hg hm hk hb .nil zou ha hdb he hpl
def rIsI (K:W.Frag) : List V->Hp->VK->Prop:=fun xs H Q=>∃ y T t b,xs=[y,.ty T]/\TyOf K H y t/\W.kitOne K t (.type T)=some b/\Q (.bl b) H
theorem zk4:zb4 X (.builtin "isinstance") (rIsI X.K):=by
 intro pins s σ H xs us Q I r ⟨y,T,t,b,e,ty,ek,q⟩
 subst e
 obtain ⟨u,w',rfl,r1,r2⟩:=vals2 r
 cases r2
 exact zkh I r1 ty ek fun tk=>⟨.bl b,H,I.tok tk,rfl,q⟩
theorem zfG (K:W.Frag)(T:String) : W.kitOne K (.type T) (.type T)=some true:=by
 unfold W.kitOne
 rw [if_pos (by simp)]
theorem znW {o:Expr}{to:TE}{apos cpos spos:Pos}(ho:PE X o to)(ha:PA X [e] t)(hbase:attributeBase o "append" X.env (eval o X.env)=eval o X.env:=by rfl)
  (hfew:((backTo cpos (starEach [e] X.env)).all (fun x=>!x.1)&&(backToKw cpos (keywordEach [] X.env)).all (fun x=>x.1.isSome)
   && decide ([e].length+([] : List Keyword).length+(if ([] : List Keyword).isEmpty then 0 else 1)<30))=true:=by rfl)
  (hline:(apos.endLine == cpos.line)=true:=by rfl) (hs:starEach [e] X.env=(false,eval e X.env)::starEach [] X.env:=by rfl) (hplain:(backTo cpos (starEach [] X.env)).any (·.1)=false:=by rfl)
  (hsw:swapsWith (.Call (.Attribute o "append" apos) [e] [] cpos) none spos.line X.env=pure false:=by rfl) :
  PS X (.Expr (.Call (.Attribute o "append" apos) [e] [] cpos) spos) (zgC (tBM X.K "list" zdz to t)) :=
 zgT (zkD PySem.F.plainAttrs_list PySem.F.slot_list_append PySem.F.type_list_append zef ho ha hbase hfew hline hs hplain) hsw
end
open Wr in
def vO:Option Int->V
 | none=>.non
 | some i=>.int i
def StAt (H:Hp)(v:V)(s:Wr.Stt) : Prop:=∃ t,v=.ref t/\H t=some (.tup [vO s.1,vO s.2])
abbrev zoq (H:Hp) : List V->List Wr.Stt->Prop:=Paired (StAt H)
def zoz (H:Hp)(a:Addr)(ss:List Wr.Stt) : Prop:=∃ xs,H a=some (.lst xs)/\zoq H xs ss
section
variable {K:W.Frag}{H H':Hp}
theorem zbW {l:Addr}{xs:List V}(h:H l=some (.lst xs)) : ∀ ys,H l≠some (.tup ys):=fun ys e=>by rw [h] at e;cases e
theorem zan {α β:Type}{R:α->β->Prop} : ∀ {xs:List α} {ss:List β} {i:Nat} {x:α},Paired R xs ss->xs[i]?=some x->∃ s,ss[i]?=some s/\R x s
 | _,_,_,_,.nil,e=>by simp at e
 | _,_,0,_,.cons r _,e=>by simp at e;subst e;exact ⟨_,rfl,r⟩
 | _,_,i+1,x,.cons _ t,e=>by
  obtain ⟨s,h1,h2⟩:=zan (i:=i) (x:=x) t (by simpa using e)
  exact ⟨s,by simpa using h1,h2⟩
theorem zdo {α β:Type}{R:α->β->Prop} : ∀ {xs:List α} {ss:List β} {x:α},Paired R xs ss->x∈xs->∃ s,s∈ss/\R x s
 | _,_,_,.nil,e=>by cases e
 | _, _, x, .cons r t, e => by
  rcases List.mem_cons.mp e with z | z
  ·subst z;exact ⟨_,List.mem_cons_self,r⟩
  ·obtain ⟨s,h1,h2⟩:=zdo t z
   exact ⟨s,List.mem_cons_of_mem _ h1,h2⟩
end
inductive Pln:Expr->Prop
 | name (x p) : Pln (.Name x p)
 | const (c j p) : Pln (.Constant c j p)
 | bin (a o b p) : Pln (.BinOp a o b p)
 | un (o a p) : Pln (.UnaryOp o a p)
 | bool (o l p) : Pln (.BoolOp o l p)
 | cmp (a o l p) : Pln (.Compare a o l p)
 | call (f a k p) : Pln (.Call f a k p)
 | sub (a b p) : Pln (.Subscript a b p)
 | attr (a b p) : Pln (.Attribute a b p)
 | tup (l k p) : Pln (.Tuple l k p)
 | lst (l p) : Pln (.List l p)
 | ife (c a b p) : Pln (.IfExp c a b p)
theorem Pln.star {e:Expr}(h:Pln e)(es:List Expr)(env:Env) : starEach (e::es) env=(false,eval e env)::starEach es env:=by cases h<;>rfl
theorem Pln.swap {e:Expr}(h:Pln e)(t:Option Expr)(l:Nat)(env:Env) : swapsWith e t l env=pure false:=by cases h<;>rfl
theorem Pln.fold {e:Expr}(h:Pln e)(env:Env)(x:Value) : foldedSetIterable e env x=pure x:=by cases h<;>rfl
inductive Nst:Expr->Prop
 | pln {e:Expr} (h:Pln e) : Nst e
 | comp (e g s p) : Nst (.ListComp e g s p)
 | lam (a b s p) : Nst (.Lambda a b s p)
theorem Nst.star {e:Expr}(h:Nst e)(es:List Expr)(env:Env) : starEach (e::es) env=(false,eval e env)::starEach es env:=by
 cases h with
 | pln h=>exact h.star es env
 | comp=>rfl
 | lam=>rfl
inductive Tru:Expr->Prop
 | name (x p) : Tru (.Name x p)
 | call (f a k p) : Tru (.Call f a k p)
 | sub (a b p) : Tru (.Subscript a b p)
 | attr (a b p) : Tru (.Attribute a b p)
theorem Tru.tru {e:Expr}(h:Tru e)(env:Env)(whole:Sem Value) : isTrue e env whole=(do let v <- whole;standAt e.pos;holding [v] (truthy v)):=by cases h<;>rfl
inductive Nsts:List Expr->Prop
 | nil:Nsts []
 | cons {e:Expr} {es:List Expr} (h:Nst e) (t:Nsts es) : Nsts (e::es)
theorem Nsts.star {es:List Expr}(h:Nsts es)(env:Env) : starEach es env=es.map fun e=>(false,eval e env):=by
 induction h with
 | nil=>rfl
 | cons h t ih=>rw [h.star,ih];rfl
theorem Nsts.no {es:List Expr}(h:Nsts es)(env:Env)(pos:Pos) : (backTo pos (starEach es env)).any (·.1)=false:=by
 rw [h.star]
 unfold backTo
 rw [List.map_map,List.any_map]
 simp
structure JE (X:Cx) (e:Expr) (t:TE) : Prop where
 h:PE X e t
structure JT (X:Cx) (e:Expr) (t:TT) : Prop where
 h:PT X e t
structure JW (X:Cx) (e:Expr) (t:TT) : Prop where
 h:PW X e t
structure JA (X:Cx) (es:List Expr) (t:TA) : Prop where
 h:PA X es t
 pl:Nsts es
structure JS (X:Cx) (s:Stmt) (t:TS) : Prop where
 h:PS X s t
structure JB (X:Cx) (s:List Stmt) (t:TS) : Prop where
 h:PSs X s t
structure JG (X:Cx) (e:Expr) (t:TG) : Prop where
 h:PG X e t
structure JGs (X:Cx) (e:List Expr) (t:TGs) : Prop where
 h:PGs X e t
structure JI (X:Cx) (tg e:Expr) (t:TI) : Prop where
 h:PI X tg e t
structure JOp (X:Cx) (f:Value->Value->Sem Value) (r:R2) : Prop where
 h:OpR X f r
structure JUn (X:Cx) (f:Value->Sem Value) (r:V->Hp->VK->Prop) : Prop where
 h:UnR X f r
structure JC (X:Cx) (f:Value) (r:List V->Hp->VK->Prop) : Prop where
 h:zb4 X f r
structure JIx (X:Cx) (r:R2) : Prop where
 h:IxR X r
section
variable {X:Cx}{k j:Nat}{x:Str}{ps:List Str}{sp:Sp}{p pos:Pos}{a b c e:Expr}{es rest:List Expr}{ta tb te:TE}{tA tB':TT}{t:TA}
theorem zaM:JOp X (binaryOp .Add) (rI0 fun i j=>.int (i+j)):=⟨zn0⟩
theorem zgE:JOp X (binaryOp .Sub) (rI0 fun i j=>.int (i-j)):=⟨znn⟩
theorem zcw:JOp X (binaryOp .Mult) (rI CMul fun i j=>.int (i*j)):=⟨znB⟩
theorem zaC:JOp X (binaryOp .Mod) (rI (fun _ j=>0<j) fun i j=>.int (i % j)):=⟨znJ⟩
theorem zaT:JOp X (binaryOp .FloorDiv) (rI CDiv fun i j=>.int (i / j)):=⟨zmE⟩
theorem zgg:JOp X (binaryOp .Pow) (rI CPow fun i j=>.int (i ^ j.toNat)):=⟨zm6⟩
theorem o_eq:JOp X (compareOp .Eq) rEq:=⟨zos⟩
theorem o_ne:JOp X (compareOp .NotEq) rNe:=⟨zn5⟩
theorem o_lt:JOp X (compareOp .Lt) (rI0 fun i j=>.bl (decide (i<j))):=⟨zon⟩
theorem o_gt:JOp X (compareOp .Gt) (rI0 fun i j=>.bl (decide (j<i))):=⟨zob⟩
theorem o_ge:JOp X (compareOp .GtE) (rI0 fun i j=>.bl (decide (j<=i))):=⟨zn4⟩
theorem zmK (hr:Room k X.A) : JOp X (compareOp .Eq) (rEqD X.K):=⟨zm9 hr.units⟩
theorem zoo (hr:Room k X.A) : JOp X (compareOp .NotEq) (rNeD X.K):=⟨znC hr.units⟩
theorem zmM:JUn X (unaryOp .USub) (rU fun i=>.int (-i)):=⟨znO⟩
theorem zaw:JIx X (rIxL X.K):=⟨zmz⟩
theorem zag:JIx X (rIxT X.K):=⟨znd⟩
theorem zcd:JC X (.builtin "len") (fun xs H Q=>∃ p ys,xs=[.ref p]/\(SqL X.K H p ys\/SqT X.K H p ys)/\Q (.int ys.length) H):=⟨zf5⟩
theorem zn1 (hc:X.calm=true:=by rfl) : JC X (.builtin "sum") (zng X.K):=⟨zfq hc⟩
theorem zkC:JC X (.builtin "isinstance") (rIsI X.K):=⟨zk4⟩
theorem zjN:JC X (.type "list") (fun xs H Q=>∃ p ys,xs=[.ref p]/\(SqL X.K H p ys\/SqT X.K H p ys)/\∀ l,H l=none->Q (.ref l) (upd H l (.lst ys))):=⟨zgj⟩
theorem e_v (i:Nat)(hN:X.N[i]?=some x:=by rfl)(hv:Vis X.env.scope x:=by first | exact Or.inl rfl | exact Or.inr (Or.inl rfl) | exact Or.inr (Or.inr rfl))(hd:(x == ("__debug__" : Str))=false:=by decide +kernel)
  (hcd:(x == ("__classdict__" : Str))=false:=by decide +kernel) : JE X (.Name x pos) (tVar i):=⟨zmL hN hv hd hcd⟩
theorem e_i {i j pos} : JE X (.Constant (.int i) j pos) (tC (.int i)):=⟨znb⟩
theorem e_b {b j pos} : JE X (.Constant (.bool b) j pos) (tC (.bl b)):=⟨zov⟩
theorem e_n {j pos} : JE X (.Constant .none j pos) (tC .non):=⟨znj⟩
theorem e_s {x j pos} : JE X (.Constant (.str x) j pos) (tC (.str x)):=⟨zns⟩
theorem e_op {op:Operator}{r:R2}(ho:JOp X (binaryOp op) r)(ha:JE X a ta)(hb:JE X b tb) : JE X (.BinOp a op b pos) (tOp r ta tb):=⟨zoe ho.h ha.h hb.h⟩
theorem e_un {op:UnaryOp}{r:V->Hp->VK->Prop}(ho:JUn X (unaryOp op) r)(ha:JE X a ta) : JE X (.UnaryOp op a pos) (tUn r ta):=⟨zot ho.h ha.h⟩
theorem zfN {op:CmpOp}{r:R2}(ho:JOp X (compareOp op) r)(ha:JE X a ta)(hb:JE X b tb)(h1:op≠.In:=by decide)(h2:op≠.NotIn:=by decide) : JE X (.Compare a [op] [b] pos) (tOp r ta tb):=⟨zl2 ho.h ha.h hb.h (zlo b h1 h2)⟩
theorem zjG {op}(h:JE X a ta) : JE X (.BoolOp op [a] pos) ta:=⟨znV h.h⟩
theorem zmk (ha:JE X a ta)(hb:JE X (.BoolOp .And (b::rest) pos) tb) : JE X (.BoolOp .And (a::b::rest) pos) (znm ta tb):=⟨znH ha.h hb.h⟩
theorem e_or (ha:JE X a ta)(hb:JE X (.BoolOp .Or (b::rest) pos) tb) : JE X (.BoolOp .Or (a::b::rest) pos) (tOrV ta tb):=⟨zod ha.h hb.h⟩
theorem zmd (ha:JE X a ta) : JE X (.UnaryOp .Not a pos) (znR ta):=⟨zmR ha.h⟩
theorem e_ix {r:R2}(hr:JIx X r)(ha:JE X a ta)(hb:JE X b tb)(hp:Pln b:=by constructor) : JE X (.Subscript a b pos) (tOp r ta tb):=⟨zoc hr.h ha.h hb.h (by cases hp<;>exact fun _ _=>rfl)⟩
theorem znX {p2:Pos}(ha:JE X a ta)(hb:JE X b tb) : JE X (.Subscript a (.Slice none (some b) none p2) pos) (tSl (rSlL X.K) ta zdr (zf7 tb)):=⟨zdU zjZ ha.h zgQ (zee hb.h)⟩
theorem a0:JA X [] tNil:=⟨zlw,.nil⟩
theorem ac (ha:JE X e te)(hr:JA X es t)(hp:Pln e:=by constructor) : JA X (e::es) (zaf te t):=⟨zhj ha.h hr.h (hp.star _ _),.cons (.pln hp) hr.pl⟩
theorem a1 (ha:JE X e te)(hp:Pln e:=by constructor) : JA X [e] (zaf te tNil):=ac ha a0 hp
theorem a1c {elt:Expr}{gs:List Comprehension}{sc:Scope}(ha:JE X (.ListComp elt gs sc p) te) : JA X [.ListComp elt gs sc p] (zaf te tNil):=⟨zhj ha.h zlw (Nst.star (.comp ..) _ _),.cons (.comp ..) .nil⟩
theorem JA.hd (h:JA X (e::es) t) : Nst e:=by cases h.pl with | cons a _=>exact a
theorem JA.rs (h:JA X (e::es) t) : Nsts es:=by cases h.pl with | cons _ a=>exact a
theorem e_fn (F:FnP X.prog X.w X.K X.mg X.base k x ps sp)(hr:Room j X.A)(ha:JA X (e::es) t)(hj:k<=j:=by decide)(hg:Gl X x:=by rfl)(hdb:(x == ("__debug__" : Str))=false:=by decide +kernel) : JE X (.Call (.Name x p) (e::es) [] pos) (zbp sp [] E0 t) :=
 ⟨zof F hr ha.h hj hg hdb (ha.hd.star _ _) (ha.rs.no _ _)⟩
theorem e_cb {id:String}{r:List V->Hp->VK->Prop}(hc:JC X (.builtin id) r)(hm:X.mg x=none)(hv:bootBuiltins x=some (.builtin id))(ha:JA X (e::es) t)(hg:Gl X x:=by rfl)(hn:x ≠ "__name__" := by decide +kernel)(hdb:(x == ("__debug__" : Str))=false:=by decide +kernel) :
  JE X (.Call (.Name x p) (e::es) [] pos) (tCB r t):=⟨zkT hc.h hg hm hv ha.h hn hdb (ha.hd.star _ _) (ha.rs.no _ _)⟩
theorem e_ct {T:String}{r:List V->Hp->VK->Prop}(hc:JC X (.type T) r)(hm:X.mg x=none)(hv:bootBuiltins x=some (.type T))(ha:JA X (e::es) t)(hg:Gl X x:=by rfl)(hn:x ≠ "__name__" := by decide +kernel)(hdb:(x == ("__debug__" : Str))=false:=by decide +kernel) :
  JE X (.Call (.Name x p) (e::es) [] pos) (tCB r t):=⟨ziS hc.h hg hm hv ha.h hn hdb (ha.hd.star _ _) (ha.rs.no _ _)⟩
theorem e_ty {T:String}(hm:X.mg x=none)(hv:bootBuiltins x=some (.type T))(hg:Gl X x:=by rfl)(hn:x ≠ "__name__" := by decide +kernel)(hd:(x == ("__debug__" : Str))=false:=by decide +kernel) : JE X (.Name x pos) (tC (.ty T)):=⟨zmt hg hm hv rfl hn hd⟩
theorem zaJ {x1}(h:JA X es t) : JE X (.Tuple es x1 pos) (tTup t):=⟨zmW h.h⟩
theorem zbC (h:JA X es t) : JE X (.List es pos) (tLst t):=⟨znN h.h⟩
def JIn (X:Cx)(scope:Scope)(cl:List (Str×Addr))(Nc:List Str)(target elt:Expr)(ifs:List Expr)(g:TG)(tt:TT)(te:TE) : Prop :=
 ∀ (pins:List (Addr×Obj)) (C:Addr) (s3:Shared) (H3:Hp) (fp:List Addr),JG (zaX X pins scope cl C Nc s3 H3 fp) target g/\((ifs=[]/\tt=tYes)\/∃ c,ifs=[c]/\JT (zaX X pins scope cl C Nc s3 H3 fp) c tt)/\JE (zaX X pins scope cl C Nc s3 H3 fp) elt te
variable {scope:Scope}{cl:List (Str×Addr)}{Nc:List Str}{js:List (Option Nat)}{target elt iter:Expr}{ifs:List Expr}{wi:TI}{g:TG}{tt:TT}
theorem JIn.inner (B:JIn X scope cl Nc target elt ifs g tt te) : Inner X scope cl Nc target elt ifs g tt te:=fun pins C s3 H3 fp=>by
 obtain ⟨h1,h2,h3⟩:=B pins C s3 H3 fp
 refine ⟨h1.h,?_,h3.h⟩
 rcases h2 with ⟨rfl,rfl⟩ | ⟨c,rfl,h2⟩
 ·exact zjQ
 ·exact ziM h2.h
theorem zaP (S:CompScope X scope cl Nc js)(hi:JI X target iter wi)(B:JIn X scope cl Nc target elt ifs g tt te)(hc:X.calm=true:=by rfl)(hs:Pln iter:=by constructor) : JE X (.ListComp elt [⟨target,iter,ifs,0⟩] scope pos) (zd3 js wi g tt te) :=
 ⟨zmn hc S hi.h B.inner (hs.fold _)⟩
theorem zap {op:CmpOp}{r:R2}(ho:JOp X (compareOp op) r)(ha:JE X a ta)(hb:JE X b tb)(h1:op≠.In:=by decide)(h2:op≠.NotIn:=by decide) : JT X (.Compare a [op] [b] pos) (zb3 (tOp r ta tb)):=⟨zfB ho.h ha.h hb.h (zlo b h1 h2)⟩
theorem zgz (h:JE X e te)(hp:Tru e:=by constructor) : JT X e (tB te):=⟨zne h.h (hp.tru _)⟩
theorem zio (ha:JT X a tA) : JT X (.UnaryOp .Not a pos) (tNot tA):=⟨znL ha.h⟩
theorem zeP (ha:JT X a tA) : JW X (.BoolOp .Or [a] pos) tA:=⟨zmY ha.h⟩
theorem w_or (ha:JT X a tA)(hb:JW X (.BoolOp .Or (b::rest) pos) tB') : JW X (.BoolOp .Or (a::b::rest) pos) (tOr tA tB'):=⟨zol ha.h hb.h⟩
theorem JW.jt (h:JW X e tA) : JT X e tA:=⟨PW.pt h.h⟩
theorem g_n (i:Nat)(hN:X.N.Nodup)(hi:X.N[i]?=some x:=by rfl)(hx:Loc X.env.scope x:=by first | exact Or.inl rfl | exact Or.inr rfl)(hf:X.fn x=true\/X.env.scope.names.lookup x=some .local:=by first | exact .inl rfl | exact .inr rfl) : JG X (.Name x pos) (zas i):=⟨zl3 hN hi hx hf⟩
theorem zjC {k n:Nat}{u:TGs}(h:JGs X es u)(hc:X.calm=true:=by rfl)(hn:(assignEach es X.env).length=n:=by rfl)(hst:(assignEach es X.env).findIdx? (·.1)=none:=by rfl) : JG X (.Tuple es k pos) (gTup X.K n u):=⟨zmQ hc h.h hn hst⟩
theorem zge:JGs X [] gNil:=⟨zlJ⟩
theorem zbs {u:TG}{us:TGs}(h1:JG X e u)(h2:JGs X es us)(hs:(assignEach (e::es) X.env).map (·.2)=assign e X.env::(assignEach es X.env).map (·.2):=by rfl) : JGs X (e::es) (zkY u us):=⟨zkK h1.h h2.h hs⟩
theorem zaz (h:JE X e te) : JI X target e (zhg X.K te):=⟨zmw h.h⟩
theorem zoa (h:JE X e te) : JI X target e (iTup X.K te):=⟨znZ h.h⟩
theorem zcM (hm:X.mg "range" = none)(ha:JA X [e] t)(hg:Gl X "range" := by rfl) : JI X target (.Call (.Name "range" p) [e] [] pos) (znY t):=⟨zjm hg hm ha.h (ha.hd.star _ _)⟩
variable {s1:Stmt}{ss body orelse:List Stmt}{u u':TS}
theorem zaq:JB X [] zgw:=⟨zmu⟩
theorem zac (h:JS X s1 u) : JB X [s1] u:=⟨zlT h.h⟩
theorem zab (h:JS X s1 u)(h2:JB X ss u') : JB X (s1::ss) (tSeq u u'):=⟨zkm h.h h2.h⟩
theorem zar (i:Nat){pos':Pos}(hN:X.N.Nodup)(he:JE X e te)(hp:Pln e:=by constructor)(hi:X.N[i]?=some x:=by rfl)(hx:Loc X.env.scope x:=by first | exact Or.inl rfl | exact Or.inr rfl)
  (hf:X.fn x=true\/X.env.scope.names.lookup x=some .local:=by first | exact .inl rfl | exact .inr rfl) : JS X (.Assign [.Name x pos'] e pos) (tAsg te (zas i)):=⟨zjw hN hi hx he.h (hp.swap _ _ _) hf⟩
theorem zmv {tg:Expr}(he:JE X e te)(hg:JG X tg g)(hp:Pln e:=by constructor)(hw:swappedStores [tg] e X.env=pure none:=by rfl)(h1:(assignEach [tg] X.env).map (·.2)=[assign tg X.env]:=by rfl) : JS X (.Assign [tg] e pos) (tAsg te g) :=
 ⟨znQ he.h hg.h (hp.swap _ _ _) hw h1⟩
theorem zgD (i:Nat){pos' spos:Pos}(hN:X.N.Nodup)(S:CompScope X scope cl Nc js)(hi:JI X target iter wi)(B:JIn X scope cl Nc target elt ifs g tt te)
  (hsw:swapsWith (.ListComp elt [⟨target,iter,ifs,0⟩] scope pos) (some (.Name x pos')) spos.line X.env=pure true:=by rfl) (hix:X.N[i]?=some x:=by rfl) (hx:Loc X.env.scope x:=by first | exact Or.inl rfl | exact Or.inr rfl) (hc:X.calm=true:=by rfl) (hs:Pln iter:=by constructor)
  (hf:X.fn x=true\/X.env.scope.names.lookup x=some .local:=by first | exact .inl rfl | exact .inr rfl) :
  JS X (.Assign [.Name x pos'] (.ListComp elt [⟨target,iter,ifs,0⟩] scope pos) spos) (tAsg (zd3 js wi g tt te) (zas i)):=⟨ziD hN hix hx hc S hi.h B.inner (hs.fold _) hsw hf⟩
theorem s_if (hc:JT X c tA)(ha:JB X body u)(hb:JB X orelse u') : JS X (.If c body orelse pos) (tIfS tA u u'):=⟨zn8 hc.h ha.h hb.h⟩
theorem zaj (he:JE X e te) : JS X (.Return (some e) pos) (tRet te):=⟨znt he.h⟩
theorem zlk (he:JE X e te)(hp:Pln e:=by constructor) : JS X (.Expr e pos) (zgC te):=⟨zgT he.h (hp.swap _ _ _)⟩
theorem ziy {o:Expr}{to:TE}{apos cpos spos:Pos}(ho:JE X o to)(ha:JE X e te)(hp:Pln e:=by constructor)(hbase:attributeBase o "append" X.env (eval o X.env)=eval o X.env:=by rfl)(hline:(apos.endLine == cpos.line)=true:=by rfl) :
  JS X (.Expr (.Call (.Attribute o "append" apos) [e] [] cpos) spos) (zgC (tBM X.K "list" zdz to (zaf te tNil))) :=
 ⟨znW ho.h (a1 ha hp).h hbase (by rw [hp.star];rfl) hline (hp.star _ _) rfl (Pln.swap (.call ..) _ _ _)⟩
theorem zdI {tg:Expr}(hi:JI X tg iter wi)(hg:JG X tg g)(hb:JB X body u)(hp:PassesOwn (model X.prog X.w) X.A X.env X.xe:=by exact PassesOwn.never)(hc:X.calm=true:=by rfl)(hs:Pln iter:=by constructor) : JS X (.For tg iter body [] pos) (tFor wi g u):=⟨zmT hp hc hi.h hg.h hb.h (hs.fold _)⟩
theorem zml (hc:JT X c tA)(hb:JB X body u)(hp:PassesOwn (model X.prog X.w) X.A X.env X.xe:=by exact PassesOwn.never) : JS X (.While c body [] pos) (zld tA u):=⟨zlb hp hc.h hb.h⟩
end
section
variable {P:Program}{w:World}{K:W.Frag}{mg:Str->Option Value}{base:Heap}
theorem Fun.okJ {x qual:Str}{st:Stmt}{f:Addr}{fd:FuncData}{N ps:List Str}{k:Nat}{sp:Sp}(F:Fun K x qual st f fd)(S:FnScope N ps (zad st))(len:∀ vs H Q E,sp vs H Q E->vs.length=ps.length)
  (hbody:∀ (cdv:Value) (A:Around) (outer:List Env) (s:Shared) (H:Hp) (vs:List V) (Q:VK) (E:XK),Room k (A.deeper (envOfC qual (zad st) s.heap.objs.size f cdv))->sp vs H Q E ->
   ∃ t,JB (cxOf CX0 P w K mg base N qual (zad st) f cdv A outer s H E).nox (zcG st) t/\t { nx:=fun _ H'=>Q .non H',rt:=Q } (start N vs) H) : FnOk P w K mg base CX0 (k+1) f fd ps sp :=
 F.ok S len fun cdv A outer s H vs Q E hr h=>let ⟨t,h1,h2⟩:=hbody cdv A outer s H vs Q E hr h;⟨t,h1.h,h2⟩
end
def Cov (l:List Env)(H:Hp)(h0 h B:Heap) : Prop:=∀ b o,h.get? b=some o->(H b≠none\/∃ u,h0.get? b=some u)->b∉frs l->B.get? b=some o
def Fly (l:List Env)(a:Addr)(cls:Value)(H:Hp)(h0 h:Heap) : Prop:=∃ (a0:Value) (B:Heap),Heap.FlyingW B l a cls a0 h/\Cov l H h0 h B
def CXe (P:Program)(w:World) : CXT:=fun outer H s E e s' =>
 ∃ a cls H',e=Value.ref a/\s'.os=s.os/\AllBare s'.gens/\Un (frs outer) [] H H' s.heap s'.heap/\HOk P w H' s'.heap/\Fly outer a cls H' s.heap s'.heap/\E cls none H'
section
variable {P:Program}{w:World}{l:List Env}{H H':Hp}{h0 h h5 B:Heap}
end
section
variable {X:Cx}{pins:List (Addr×Obj)}{σ:St}{H:Hp}{s:Shared}{B h5:Heap}
end
section
variable {P:Program}{w:World}{K:W.Frag}{mg:Str->Option Value}{base:Heap}{N:List Str}{qual:Str}{scope:Scope}{f:Addr}{cd:Value}{A:Around}{outer:List Env}{s:Shared}{H:Hp}{E:XK}
end
section
variable {X:Cx}{k j:Nat}{x:Str}{ps:List Str}{sp:Sp}{p pos:Pos}{e:Expr}{es:List Expr}{t:TA}
end
abbrev veM:List Value:=[.type "ValueError", .type "Exception", .type "BaseException", .type "object"]
section
variable {X:Cx}{E:XK}{x:Str}{C:Addr}{np cp pos:Pos}{e:Expr}{te:TE}
end
section
variable {X:Cx}{pos:Pos}{e e2:Expr}{es:List Expr}{te:TE}{t:TJ}
end
def Cx.sub (X:Cx)(a:Addr)(E:Value->Shared->Prop) : Cx:={ X with A:=X.A.mark (some (.ref a)),calm:=false,xe:=E }
section
variable {X:Cx}{pins:List (Addr×Obj)}{σ:St}{H:Hp}{s:Shared}{a:Addr}{E:Value->Shared->Prop}
end
section
variable {X:Cx}{cn en y:Str}{C:Addr}{cp yp ep ap hp:Pos}{iy ie:Nat}{pins:List (Addr×Obj)}{σ:St}{D:Ends}{H1:Hp}{s1 s2:Shared}{e1:Value}
end
end L2
namespace L2
open PySem PySem.Spec PyProof.Rows PySem.W PySem.Calls
section
open Builtin Builtin.ObjectAttr Builtin.Getset_descriptor
variable {K:W.Frag}{C a:Addr}{o:Obj}{prog:Program}{w:World}{A:Around}{s:Shared}
end
end L2
namespace L2
open PySem PySem.Spec PyProof.Rows
section
variable {X:Cx}{k j:Nat}{x y cn en:Str}{ps:List Str}{sp:Sp}{p pos np cp yp ep ap hp tp:Pos}{e e2:Expr}{es:List Expr}{t:TA}{te:TE}{tx:XK->TE}{E:XK}{C:Addr}{tj:TJ}
end
section
variable {P:Program}{w:World}{K:W.Frag}{mg:Str->Option Value}{base:Heap}
end
section
variable {prog:Program}{w:World}{A:Around}{R:Result->Shared->Prop}{s:Shared}
end
section
variable {X:Cx}{pins:List (Addr×Obj)}{σ:St}{H:Hp}{s:Shared}{scope:Scope}{cl:List (Str×Addr)}{Nc:List Str}{js:List (Option Nat)}{C:Addr}{fp:List Addr}{h1:Heap}{tk:Nat}{m:Str->Option Value}
end
section
variable {X:Cx}{E:XK}{pins:List (Addr×Obj)}{σ:St}{H:Hp}{s:Shared}{scope:Scope}{cl:List (Str×Addr)}{Nc:List Str}{js:List (Option Nat)}{target elt iter:Expr}{ifs:List Expr}{pos:Pos}{wi:TI}{g:TG}{tt:TT}{te:TE}
end
section
variable {M:Model}{A:Around}{E:Value->Shared->Prop}{s:Shared}
end
section
variable {P:Program}{w:World}{K:W.Frag}{mg:Str->Option Value}{base:Heap}{N:List Str}{qual:Str}{scope:Scope}{f:Addr}{cd:Value}{A:Around}{outer:List Env}{s:Shared}{H:Hp}{E:XK}
end
section
variable {X:Cx}{E:XK}{scope:Scope}{cl:List (Str×Addr)}{Nc:List Str}{js:List (Option Nat)}{target elt iter:Expr}{ifs:List Expr}{pos:Pos}{wi:TI}{g:TG}{tt:TT}{te:TE}
end
section
variable {prog:Program}{w:World}{A:Around}{E:Value->Shared->Prop}{s:Shared}
end
end L2
namespace Wr
open PySem PySem.Spec PyProof.Rows
structure RDict (h:Heap) (d:Addr) (es:Array DictEntry) (ep:Nat) : Prop where
 ex:∃ o,h.get? d=some o/\o.ExactDict/\o.data=.dict es ep
theorem RDict.at {h h':Heap}{d:Addr}{es:Array DictEntry}{ep:Nat}(x:RDict h d es ep)(e:∀ o,h.get? d=some o->h'.get? d=some o) : RDict h' d es ep:=let ⟨o,a,r⟩:=x.ex;⟨o,e o a,r⟩
section
variable {prog:Program}{w:World}{A:Around}{E:Value->Shared->Prop}{s:Shared}{d:Addr}{es:Array DictEntry}{ep:Nat}
theorem RDict.typeIs (x:RDict s.heap d es ep) : s.TypeIs (.ref d) "dict" := let ⟨o,a,b,_⟩:=x.ex;⟨o,a,b.1⟩
theorem rd_iter {Q:Value->Shared->Prop}(hd:(d == sysModules)=false)(hm:RDict s.heap d es ep)
  (hQ:∀ h',h'.IsKeyIter s.heap.objs.size d 0 es.size ep->(∀ b o,s.heap.get? b=some o->h'.get? b=some o)->Q (.ref s.heap.objs.size) { s with heap:=h' }) : wpAny (model prog w) A (pyIter (.ref d)) Q E s:=by
 obtain ⟨o,ho,hc,hdat⟩:=id hm.ex;have hT:=hm.typeIs
 refine wpAny_pyIter_slot hT F.slot_dict_iter (wpAny_call_entry F.slot_dict_iter hT F.entry_dict_iter ?_ (F.args_dict_iter_1 _));unfold Builtin.«dict.__iter__»
 refine wpAny_bind ?_;unfold Builtin.Dict.dictSlotNone
 refine wpAny_bind (wpAny_notOrdered_dict hT ?_);show wpAny _ _ (pure (Value.ref d)) _ _ s
 refine wpAny_pure ?_;show wpAny _ _ (Builtin.Dict.showsAll d >>= _) _ _ s
 unfold Builtin.Dict.showsAll;rw [if_neg (by rw [hd];exact Bool.false_ne_true)]
 refine wpAny_bind (wpAny_pure (wpAny_bind (wpAny_dictEntries ho hdat (wpAny_bind (wpAny_dictEpoch ho hdat ?_)))))
 refine wpAny_bind (wpAny_newObj_type (wpAny_pure ⟨_,rfl,"dict_keyiterator", _,⟨_,Heap.get?_push_size _ rfl,rfl⟩,F.slot_dict_keyiterator_next.lookup,?_⟩))
 exact hQ _ ⟨_,Heap.get?_push_size _ rfl,rfl,rfl⟩ fun b o e=>Heap.get?_push_of_some _ e
theorem rd_iterK {v:Addr}{Q:Value->Shared->Prop}(hv:W.KdlKeysView s.heap v d)(hm:RDict s.heap d es ep)
  (hQ:∀ h',h'.IsKeyIter s.heap.objs.size d 0 es.size ep->(∀ b o,s.heap.get? b=some o->h'.get? b=some o)->Q (.ref s.heap.objs.size) { s with heap:=h' }) : wpAny (model prog w) A (pyIter (.ref v)) Q E s:=by
 obtain ⟨ov,hov,hcv,hdv⟩:=id hv;obtain ⟨o,ho,hc,hdat⟩:=id hm.ex
 refine wpAny_pyIter_slot hv.typeIs W.kdl_slot_keys_iter (wpAny_call_entry W.kdl_slot_keys_iter hv.typeIs W.kdl_entry_keys_iter ?_ (W.kdl_args_keys_iter _));unfold Builtin.«dict_keys.__iter__»
 refine wpAny_bind (wpAny_pure (wpAny_bind ?_));unfold Builtin.Dict_items.dictOf
 refine wpAny_bind (wpAny_field hov hdv (x:=.ref d) rfl (wpAny_pure (wpAny_bind ?_)));unfold Builtin.Dict_items.newIterator
 refine wpAny_bind (wpAny_dictEntries ho hdat (wpAny_bind (wpAny_dictEpoch ho hdat ?_)))
 have hown:Builtin.Dict_items.ownsTuple "dict_keyiterator" = false:=(by decide);simp only [hown,Bool.false_eq_true,if_false]
 refine wpAny_newObj_type (wpAny_pure ⟨_,rfl,"dict_keyiterator", _,⟨_,Heap.get?_push_size _ rfl,rfl⟩,PySem.F.slot_dict_keyiterator_next.lookup,?_⟩)
 exact hQ _ ⟨_,Heap.get?_push_size _ rfl,rfl,rfl⟩ fun b o e=>Heap.get?_push_of_some _ e
theorem zlQ {it:Addr}{i:Nat}{e:DictEntry}{Q:Option Value->Shared->Prop}(hit:s.heap.IsKeyIter it d i es.size ep)(hm:RDict s.heap d es ep)(hx:es[i]?=some e)
  (hQ:∀ h',h'.IsKeyIter it d (i+1) es.size ep->Heap.SameBut it s.heap h'->Q (some e.key) { s with heap:=h' }) : wpAny (model prog w) A (pyNext (.ref it)) Q E s:=by
 obtain ⟨o,ho,hc,hd⟩:=id hit;obtain ⟨od,hod,hcd,hdd⟩:=id hm.ex;unfold pyNext
 refine wpAny_bind (wpAny_attempt (wpAny_callSpecial?_slot (name:=Str.ofString "__next__") hit.typeIs F.slot_dict_keyiterator_next (wpAny_call_entry F.slot_dict_keyiterator_next hit.typeIs F.entry_dict_keyiterator_next ?_ (F.args_dict_keyiterator_next_1 _))))
 refine wpAny_bind (wpAny_pure (wpAny_bind (wpAny_bind ?_)))
 first | refine wpAny_bind (wpAny_typeNameOfWhole_keyiter hit.typeIs (wpAny_pure ?_));skip | refine wpAny_bind (wpAny_typeNameOf_keyiter hit.typeIs (wpAny_pure ?_));skip
 have hown:Builtin.Dict_items.ownsTuple "dict_keyiterator" = false:=(by decide)
 refine wpAny_bind (wpAny_fieldsOf ho hd ?_);simp only [hown,Bool.false_eq_true,if_false]
 show wpAny _ _ (if (Value.ref d == Value.none)=true then _ else _) _ _ s;rw [if_neg (show ¬ ((Value.ref d == Value.none)=true) from Bool.false_ne_true)]
 refine wpAny_bind (wpAny_pure (wpAny_bind (wpAny_dictEntries hod hdd ?_)));rw [if_neg (by simp)]
 refine wpAny_bind (wpAny_pure (wpAny_bind (wpAny_dictEpoch hod hdd ?_)));rw [if_neg (by simp)];refine wpAny_pure ?_
 obtain ⟨hlt',ee⟩:=Array.getElem?_eq_some_iff.mp hx
 simp only [show ¬ ((i:Int)<0) from (by lia),if_false,Int.toNat_natCast,Array.getElem?_eq_getElem hlt'];refine wpAny_bind ?_
 first | refine wpAny_bind (wpAny_typeNameOfWhole_keyiter hit.typeIs (wpAny_pure ?_));skip | refine wpAny_bind (wpAny_typeNameOf_keyiter hit.typeIs (wpAny_pure ?_));skip
 refine wpAny_bind (wpAny_isOneOf_keyiter hit.typeIs ?_);show wpAny _ _ (setField (.ref it) 1 (rawInt ((i:Int)+1)) >>= _) _ _ s
 refine wpAny_bind (wpAny_setField ho hd (by simp) ?_)
 have hit':(s.heap.update it (Obj.mapFields (·.setIfInBounds 1 (rawInt ((i:Int)+1))))).IsKeyIter it d (i+1) es.size ep:=⟨_,Heap.get?_update_self _ ho (Obj.isFreed_of_fields (Obj.data_mapFields hd _)),(Obj.cls_mapFields ..).trans hc,by rw [Obj.data_mapFields hd];simp [rawInt]⟩
 refine wpAny_bind (wpAny_holding (wpAny_bind (wpAny_isOneOf_keyiter (s:={ s with heap:=s.heap.update it (Obj.mapFields (·.setIfInBounds 1 (rawInt ((i:Int)+1)))) }) hit'.typeIs ?_)))
 show wpAny _ _ (pure es[i].key) _ _ _;rw [ee]
 exact wpAny_pure (wpAny_pure ⟨_,rfl,wpAny_pure (hQ _ hit' (Heap.SameBut.update ..))⟩)
theorem znT {it:Addr}{i:Nat}{Q:Option Value->Shared->Prop}(hh:A.handled=none)(hit:s.heap.IsKeyIter it d i es.size ep)(hm:RDict s.heap d es ep)(hx:es.size<=i)
  (hQ:∀ h',Heap.ExtBut it s.heap h'->Q none { s with heap:=h' }) : wpAny (model prog w) A (pyNext (.ref it)) Q E s:=by
 obtain ⟨o,ho,hc,hd⟩:=id hit;obtain ⟨od,hod,hcd,hdd⟩:=id hm.ex;unfold pyNext
 refine wpAny_bind (wpAny_attempt (wpAny_callSpecial?_slot (name:=Str.ofString "__next__") hit.typeIs F.slot_dict_keyiterator_next (wpAny_call_entry F.slot_dict_keyiterator_next hit.typeIs F.entry_dict_keyiterator_next ?_ (F.args_dict_keyiterator_next_1 _))))
 refine wpAny_bind (wpAny_pure (wpAny_bind (wpAny_bind ?_)))
 first | refine wpAny_bind (wpAny_typeNameOfWhole_keyiter hit.typeIs (wpAny_pure ?_));skip | refine wpAny_bind (wpAny_typeNameOf_keyiter hit.typeIs (wpAny_pure ?_));skip
 have hown:Builtin.Dict_items.ownsTuple "dict_keyiterator" = false:=(by decide)
 refine wpAny_bind (wpAny_fieldsOf ho hd ?_);simp only [hown,Bool.false_eq_true,if_false]
 show wpAny _ _ (if (Value.ref d == Value.none)=true then _ else _) _ _ s;rw [if_neg (show ¬ ((Value.ref d == Value.none)=true) from Bool.false_ne_true)]
 refine wpAny_bind (wpAny_pure (wpAny_bind (wpAny_dictEntries hod hdd ?_)));rw [if_neg (by simp)]
 refine wpAny_bind (wpAny_pure (wpAny_bind (wpAny_dictEpoch hod hdd ?_)));rw [if_neg (by simp)];refine wpAny_pure ?_
 simp only [show ¬ ((i:Int)<0) from (by lia),if_false,Int.toNat_natCast,Array.getElem?_eq_none hx];refine wpAny_bind ?_
 first | refine wpAny_bind (wpAny_typeNameOfWhole_keyiter hit.typeIs (wpAny_pure ?_));skip | refine wpAny_bind (wpAny_typeNameOf_keyiter hit.typeIs (wpAny_pure ?_));skip
 show wpAny _ _ (setField (.ref it) 0 .none >>= _) _ _ s;refine wpAny_bind (wpAny_setField ho hd (by simp) ?_)
 show wpAny _ _ (newExc (.type "StopIteration") [] >>= _) _ _ _;refine wpAny_bind ?_;simp only [newExc,newTuple]
 refine wpAny_bind (wpAny_newObj_type ?_ (by size_fits));refine wpAny_bind (m:=firstArgMember _ _) (wpAny_of_eq (a:=Value.none) (by first | rfl | (simp only [firstArgMember];rfl)) ?_)
 refine wpAny_newObj_type ?_ (by size_fits);simp only [raiseNew];refine wpAny_bind (wpAny_handled ?_)
 rw [show A.in1.handled=none from hh];refine wpAny_bind (wpAny_pure (wpAny_throw ?_));refine wpAny_bind (wpAny_isInstance (T := "StopIteration") (b:=true) ⟨_,Heap.get?_push_size _ rfl,rfl⟩ isSubtype_stop ?_)
 exact wpAny_pure (hQ _ (((Heap.SameBut.update ..).extBut.push _).push _))
theorem rd_walks (hh:A.handled=none)(I d:Addr)(hne:d≠I)(es:Array DictEntry)(ep:Nat) :
  Walks prog w A I [I,d] [I] es.size (fun i v=>∃ e,es[i]?=some e/\v=e.key) (fun i h=>h.IsKeyIter I d i es.size ep/\RDict h d es ep) where
 sub:=fun b hb=>by simp at hb;simp [hb]
 frame:=fun _ _ _ st hk=>⟨st.1.at fun o e=>hk I (by simp) o e,st.2.at fun o e=>hk d (by simp) o e⟩
 item:=fun i s Q E hi st hQ=>by
  have hx:es[i]?=some es[i]:=by simp [hi]
  exact zlQ st.1 st.2 hx fun h' hit' hs'=>hQ _ h' s.toks ⟨_,hx,rfl⟩ ⟨hit',st.2.at fun o e=>hs'.extBut _ o hne e⟩ fun b o hb e=>hs'.extBut b o (fun h=>hb (by simp [h])) e
 done:=fun s Q E st hQ=>znT hh st.1 st.2 (Nat.le_refl _) fun h' he'=>hQ h' s.toks fun b o hb e=>he' b o (fun h=>hb (by simp [h])) e
 self:=fun _ _ _ _ st hQ=>wpAny_pyIter_keyiter st.1 hQ
end
end Wr
namespace Wr
open PySem SetTable
def it (m:Nat) : Nat->Nat->Nat
 | 0,i=>i
 | s+1,i=>it m s ((i*5+1) % m)
def orb (m:Nat) : Nat->Nat->List Nat
 | 0,_=>[]
 | s+1,i=>i::orb m s ((i*5+1) % m)
def cyc (m:Nat) : Bool:=(List.range m).all (fun e=>(orb m m 0).contains e)&&it m m 0 == 0
theorem zgY:∀ m∈[8,16,32,64,128,256,512],cyc m=true:=by decide +kernel
theorem zj5 (m a b i:Nat) : it m (a+b) i=it m b (it m a i):=by
 induction a generalizing i with
 | zero=>rw [Nat.zero_add];rfl
 | succ a ih=>rw [Nat.succ_add];exact ih _
theorem zls {m:Nat} : ∀ {n i e:Nat},e∈orb m n i->∃ s,s<n/\it m s i=e
 | 0,_,_,h=>by cases h
 | n + 1, i, e, h => by
  rcases List.mem_cons.mp h with z | z
  ·exact ⟨0,Nat.succ_pos _,z.symm⟩
  ·obtain ⟨s,h1,h2⟩:=zls z
   exact ⟨s+1,by lia,h2⟩
theorem zjs {m:Nat}(h:cyc m=true){i e:Nat}(hi:i<m)(he:e<m) : ∃ s,s<m/\it m s i=e:=by
 unfold cyc at h
 rw [Bool.and_eq_true] at h
 have hz:it m m 0=0:=eq_of_beq h.2
 have at0:∀ x,x<m->∃ s,s<m/\it m s 0=x:=fun x hx=>by
  have:=List.all_eq_true.mp h.1 x (List.mem_range.mpr hx)
  exact zls (List.contains_iff_mem.mp this)
 obtain ⟨s1,h1,e1⟩:=at0 i hi
 obtain ⟨s2,h2,e2⟩:=at0 e he
 by_cases hs:s1<=s2
 ·refine ⟨s2-s1,by lia,?_⟩
  have:=zj5 m s1 (s2-s1) 0
  rw [show s1+(s2-s1)=s2 by lia,e1,e2] at this
  exact this.symm
 ·refine ⟨m-s1+s2,by lia,?_⟩
  have:=zj5 m s1 (m-s1+s2) 0
  rw [show s1+(m-s1+s2)=m+s2 by lia,e1,zj5,hz,e2] at this
  exact this.symm
def lseq (mask:Nat) : Nat->Nat->Nat->Nat×Nat
 | 0,i,p=>(i,p)
 | t+1,i,p=>lseq mask t (leap mask i p).1 (leap mask i p).2
theorem zk2 (mask a b:Nat) : ∀ i p,lseq mask (a+b) i p=lseq mask b (lseq mask a i p).1 (lseq mask a i p).2:=by
 induction a with
 | zero=>intro i p;rw [Nat.zero_add];rfl
 | succ a ih=>intro i p;rw [Nat.succ_add];exact ih _ _
theorem zdG (mask:Nat) : ∀ t i p,(lseq mask t i p).2=p / 32 ^ t
 | 0,_,p=>by simp [lseq]
 | t+1,i,p=>by
  show (lseq mask t (leap mask i p).1 (p / 32)).2=_
  rw [zdG mask t,Nat.div_div_eq_div_mul,Nat.pow_succ,Nat.mul_comm 32]
theorem ziW (mask:Nat) : ∀ t i p,i<mask+1->(lseq mask t i p).1<mask+1
 | 0,_,_,h=>h
 | t+1,i,p,h=>ziW mask t _ _ (Nat.mod_lt _ (Nat.succ_pos _))
theorem zgi (mask:Nat) : ∀ t i,(lseq mask t i 0).1=it (mask+1) t i
 | 0,_=>rfl
 | t+1,i=>by
  show (lseq mask t (leap mask i 0).1 (leap mask i 0).2).1=it (mask+1) t ((i*5+1) % (mask+1))
  have:leap mask i 0=((i*5+1) % (mask+1),0):=by simp [leap]
  rw [this]
  exact zgi mask t _
theorem zka (h:Int) : bits h<2 ^ 64:=by
 unfold bits
 have h1:=Int.emod_nonneg h (show (2 ^ 64:Int)≠0 by decide)
 have h2:=Int.emod_lt_of_pos h (show (0:Int)<2 ^ 64 by decide)
 lia
theorem reach {mask:Nat}(hc:cyc (mask+1)=true)(i:Nat)(hi:i<mask+1)(p:Nat)(hp:p<2 ^ 64)(e:Nat)(he:e<mask+1) : ∃ t,t<mask+15/\(lseq mask t i p).1=e:=by
 have h13:(lseq mask 13 i p).2=0:=by
  rw [zdG]
  exact Nat.div_eq_of_lt (Nat.lt_of_lt_of_le hp (by decide))
 obtain ⟨s,hs,es⟩:=zjs hc (ziW mask 13 i p hi) he
 refine ⟨13+s,by lia,?_⟩
 rw [zk2,h13,zgi]
 exact es
theorem zcj (mask i:Nat) : i<=runEnd mask i:=by unfold runEnd;split<;>lia
theorem zf0 {mask:Nat}{owner:Array (Option Nat)} : ∀ (fuel i p:Nat),(∃ t,t<fuel/\owner.getD (lseq mask t i p).1 (some 0)=none)->∃ j,layClean.free mask owner fuel i p=some j/\owner.getD j (some 0)=none
 | 0,_,_,⟨t,h,_⟩=>absurd h (Nat.not_lt_zero _)
 | fuel + 1, i, p, ⟨t, h, e⟩ => by
  unfold layClean.free
  cases hf:(List.range (runEnd mask i+1-i)).find? fun k=>(owner.getD (i+k) (some 0)).isNone with
  | some k =>
   have:=List.find?_some hf
   exact ⟨i+k,rfl,Option.isNone_iff_eq_none.mp this⟩
  | none =>
   have hn:=List.find?_eq_none.mp hf
   cases t with
   | zero =>
    exfalso
    have:=hn 0 (List.mem_range.mpr (by have:=zcj mask i;lia))
    apply this
    have e':owner.getD i (some 0)=none:=e
    rw [Nat.add_zero,e']
    rfl
   | succ t=>exact zf0 fuel _ _ ⟨t,by lia,e⟩
def live (mask:Nat)(owner:Array (Option Nat)) : List Nat:=(List.range (mask+1)).filterMap fun j=>owner.getD j none
theorem zc1 {f g:Nat->Option Nat}{j k:Nat}(hf:f j=none)(hg:g j=some k)(ho:∀ i,i≠j->f i=g i) : ∀ {l:List Nat},l.Nodup->j∈l->(l.filterMap g).Perm (k::l.filterMap f)
 | [],_,h=>by cases h
 | x :: l, nd, h => by
  obtain ⟨n1,n2⟩:=List.nodup_cons.mp nd
  by_cases e:x=j
  ·subst e
   have same:l.filterMap g=l.filterMap f:=by
    have:∀ (r:List Nat),(∀ y∈r,y≠x)->r.filterMap g=r.filterMap f:=by
     intro r
     induction r with
     | nil=>intro _;rfl
     | cons y r ih =>
      intro hr
      rw [List.filterMap_cons,List.filterMap_cons,ho y (hr y List.mem_cons_self),ih fun z hz=>hr z (List.mem_cons_of_mem _ hz)]
    exact this l fun y hy z=>n1 (z ▸ hy)
   rw [List.filterMap_cons_some hg,List.filterMap_cons_none hf,same]
  ·have hl:j∈l:=by
    rcases List.mem_cons.mp h with z | z
    ·exact absurd z.symm e
    ·exact z
   have ih:=zc1 hf hg ho n2 hl
   cases hx:f x with
   | none=>rw [List.filterMap_cons_none hx,List.filterMap_cons_none ((ho x e) ▸ hx)];exact ih
   | some y =>
    rw [List.filterMap_cons_some hx,List.filterMap_cons_some ((ho x e) ▸ hx)]
    exact (ih.cons y).trans (List.Perm.swap _ _ _)
theorem zjk {owner:Array (Option Nat)}{j:Nat}(h:owner.getD j (some 0)=none) : j<owner.size/\owner.getD j none=none:=by
 by_cases hj:j<owner.size
 ·refine ⟨hj,?_⟩
  simp [Array.getD,hj] at h ⊢
  exact h
 ·simp [Array.getD,hj] at h
theorem zkt {mask:Nat}{owner:Array (Option Nat)}(hs:owner.size=mask+1){j k:Nat}(h:owner.getD j (some 0)=none) : (live mask (owner.setIfInBounds j (some k))).Perm (k::live mask owner):=by
 obtain ⟨hj,hn⟩:=zjk h
 refine zc1 (f:=fun i=>owner.getD i none) (j:=j) hn ?_ (fun i hi=>?_) List.nodup_range (List.mem_range.mpr (by lia))
 ·simp [Array.getD,hj]
 ·show owner.getD i none=(owner.setIfInBounds j (some k)).getD i none
  by_cases hi2:i<owner.size
  ·simp [Array.getD,hi2,Array.getElem_setIfInBounds,Ne.symm hi]
  ·simp [Array.getD,hi2]
theorem zjq {mask:Nat}{owner:Array (Option Nat)}(h:(live mask owner).length<mask+1) : ∃ e,e<mask+1/\owner.getD e none=none:=by
 apply Classical.byContradiction
 intro hn
 have all:∀ (l:List Nat),(∀ e∈l,e<mask+1)->(l.filterMap fun j=>owner.getD j none).length=l.length:=by
  intro l
  induction l with
  | nil=>intro _;rfl
  | cons x l ih =>
   intro hl
   cases hx:owner.getD x none with
   | none=>exact absurd ⟨x,hl x List.mem_cons_self,hx⟩ hn
   | some y=>rw [List.filterMap_cons_some (f:=fun j=>owner.getD j none) hx,List.length_cons,List.length_cons,ih fun e he=>hl e (List.mem_cons_of_mem _ he)]
 have:=all (List.range (mask+1)) fun e he=>List.mem_range.mp he
 rw [List.length_range] at this
 unfold live at h
 lia
theorem zht {mask:Nat}(hc:cyc (mask+1)=true) : ∀ (hs:List Int) (owner:Array (Option Nat)) (k:Nat),owner.size=mask+1->(live mask owner).Perm (List.range k)->k+hs.length<=mask ->
  ∃ owner', (hs.foldl (init := some (owner, k)) fun acc h => do
    let (owner,k) <- acc
    let j <- layClean.free mask owner (turns mask) (bits h % (mask+1)) (bits h)
    pure (owner.setIfInBounds j (some k),k+1))=some (owner',k+hs.length)/\owner'.size=mask+1/\(live mask owner').Perm (List.range (k+hs.length))
 | [],owner,k,h1,h2,_=>⟨owner,rfl,h1,h2⟩
 | h :: hs, owner, k, h1, h2, h3 => by
  rw [List.length_cons] at h3
  have hl:(live mask owner).length=k:=by rw [h2.length_eq,List.length_range]
  obtain ⟨e,he,hn⟩:=zjq (mask:=mask) (owner:=owner) (by lia)
  have hn':owner.getD e (some 0)=none:=by
   have hs':e<owner.size:=by lia
   simp [Array.getD,hs'] at hn ⊢
   exact hn
  obtain ⟨t,ht,et⟩:=reach hc (bits h % (mask+1)) (Nat.mod_lt _ (Nat.succ_pos _)) (bits h) (zka h) e he
  obtain ⟨j,ej,hj⟩:=zf0 (mask:=mask) (owner:=owner) (turns mask) (bits h % (mask+1)) (bits h) ⟨t,ht,by rw [et];exact hn'⟩
  have p2:(live mask (owner.setIfInBounds j (some k))).Perm (List.range (k+1)):=by
   refine (zkt h1 hj).trans ?_
   rw [List.range_succ]
   exact (h2.cons k).trans (List.perm_append_comm (l₁:=[k]) (l₂:=List.range k))
  obtain ⟨o',q1,q2,q3⟩:=zht hc hs (owner.setIfInBounds j (some k)) (k+1) (by simpa using h1) p2 (by lia)
  refine ⟨o',?_,q2,?_⟩
  ·rw [List.foldl_cons]
   show List.foldl _ (do
    let j <- layClean.free mask owner (turns mask) (bits h % (mask+1)) (bits h)
    pure (owner.setIfInBounds j (some k),k+1)) hs=_
   rw [ej]
   rw [List.length_cons,show k+(hs.length+1)=k+1+hs.length by lia]
   exact q1
  ·rw [List.length_cons,show k+(hs.length+1)=k+1+hs.length by lia]
   exact q3
theorem zgy {mask:Nat}(hc:cyc (mask+1)=true)(finger moves:Nat)(led plain:Bool)(hashes:Array Int)(h:hashes.size<=mask) :
  ∃ t order,SetTable.laid mask finger moves led plain hashes=some (t,order)/\t.mask=mask/\t.dummies = #[]/\t.finger=finger/\t.led=led/\t.plain=plain/\t.place.size=hashes.size/\order.toList.Perm (List.range hashes.size):=by
 have start:(live mask (Array.replicate (mask+1) none)).Perm (List.range 0):=by
  have:live mask (Array.replicate (mask+1) none)=[]:=by
   unfold live
   rw [List.filterMap_eq_nil_iff]
   intro j hj
   have:=List.mem_range.mp hj
   simp [Array.getD]
  rw [this]
  exact List.Perm.refl _
 obtain ⟨o,e1,e2,e3⟩:=zht hc hashes.toList (Array.replicate (mask+1) none) 0 (by simp) start (by simpa using h)
 rw [Nat.zero_add] at e1 e3
 have el:layClean mask hashes=some o:=by
  unfold layClean
  rw [<- Array.foldl_toList]
  rw [e1]
  rfl
 unfold SetTable.laid
 rw [el]
 refine ⟨_,_,rfl,rfl,rfl,rfl,rfl,rfl,?_,?_⟩
 ·have:((List.range (mask+1)).filterMap fun j=>(o.getD j none).map fun x=>(j,x)).length=(live mask o).length:=by
   have:live mask o=((List.range (mask+1)).filterMap fun j=>(o.getD j none).map fun x=>(j,x)).map (·.2):=by
    unfold live
    rw [List.map_filterMap]
    congr 1
    funext j
    cases o.getD j none<;>rfl
   rw [this,List.length_map]
  simp only [List.size_toArray,List.length_map]
  rw [this,e3.length_eq,List.length_range]
  simp
 ·have:((List.range (mask+1)).filterMap fun j=>(o.getD j none).map fun x=>(j,x)).map (·.2)=live mask o:=by
   unfold live
   rw [List.map_filterMap]
   congr 1
   funext j
   cases o.getD j none<;>rfl
  show List.Perm (((List.range (mask+1)).filterMap fun j=>(o.getD j none).map fun x=>(j,x)).map (·.2)).toArray.toList _
  rw [this]
  simpa using e3
theorem zbn {n:Nat}(h:n<512) : ∃ m∈[8,16,32,64,128,256,512],sizeAbove n=m/\n<m:=by
 have all:∀ n<512,(([8,16,32,64,128,256,512] : List Nat).contains (sizeAbove n)&&decide (n<sizeAbove n))=true:=by decide +kernel
 have:=all n h
 rw [Bool.and_eq_true] at this
 exact ⟨sizeAbove n,List.contains_iff_mem.mp this.1,rfl,of_decide_eq_true this.2⟩
theorem zd9 (t:SetTable)(hashes:Array Int){wanted:Nat}(hw:wanted<512)(h:hashes.size<=wanted) :
  ∃ t' order,t.relaid hashes wanted=some (t',order)/\t'.mask=sizeAbove wanted-1/\t'.dummies = #[]/\t'.finger=t.finger/\t'.led=t.led/\t'.plain=t.plain/\t'.place.size=hashes.size/\order.toList.Perm (List.range hashes.size):=by
 obtain ⟨m,hm,e,hlt⟩:=zbn hw
 have hc:=zgY m hm
 have hm1:1<=m:=by lia
 unfold relaid
 rw [e]
 exact zgy (mask:=m-1) (by rw [show m-1+1=m by lia];exact hc) _ _ _ _ hashes (by lia)
def Rise (l:List Nat) : Prop:=l.Pairwise (· < ·)
def cnt (l:List Nat)(j:Nat) : Nat:=(l.filter fun x=>decide (x<j)).length
theorem zaU:∀ {l:List Nat},Rise l->∀ (i:Nat) (x:Nat),l[i]?=some x->∀ j,(x<j↔i<cnt l j)
 | [],_,i,x,h,_=>by simp at h
 | y :: l, hl, i, x, h, j => by
  obtain ⟨h1,h2⟩:=List.pairwise_cons.mp hl
  have c:cnt (y::l) j=if y<j then cnt l j+1 else cnt l j:=by
   unfold cnt
   rw [List.filter_cons]
   by_cases q:y<j<;>simp [q]
  have zero : ¬ y<j->cnt l j=0:=fun q=>by
   unfold cnt
   rw [List.length_eq_zero_iff,List.filter_eq_nil_iff]
   intro z hz
   have:=h1 z hz
   simp;lia
  rw [c]
  cases i with
  | zero =>
   have e:y=x:=by simpa using h
   subst e
   by_cases q:y<j
   ·simp [q]
   ·rw [if_neg q,zero q];simp [q]
  | succ i =>
   have h':l[i]?=some x:=by simpa using h
   have ih:=zaU h2 i x h' j
   have:=h1 x (List.mem_of_getElem? h')
   by_cases q:y<j
   ·rw [if_pos q];lia
   ·rw [if_neg q,zero q];lia
theorem zhD (l:List Nat)(j:Nat) : cnt l j<=l.length:=List.length_filter_le _ _
theorem zfx {xs:Array Nat}{j:Nat}(h:Rise xs.toList) : ∀ (fuel lo hi:Nat),hi-lo<=fuel->lo<=cnt xs.toList j->cnt xs.toList j<=hi->hi<=xs.size->below.go xs j fuel lo hi=cnt xs.toList j
 | 0,lo,hi,h1,h2,h3,_=>by unfold below.go;lia
 | fuel + 1, lo, hi, h1, h2, h3, h4 => by
  unfold below.go
  by_cases hl:lo<hi
  ·rw [if_pos hl]
   dsimp only
   have hm:(lo+hi) / 2<xs.size:=by lia
   have eg:xs.getD ((lo+hi) / 2) j=xs[(lo+hi) / 2]:=by simp [Array.getD,hm]
   have hs:=zaU h ((lo+hi) / 2) (xs[(lo+hi) / 2]) (by simp [hm]) j
   rw [eg]
   by_cases q:xs[(lo+hi) / 2] < j
   ·rw [if_pos q]
    have:=hs.mp q
    exact zfx h fuel _ _ (by lia) (by lia) h3 h4
   ·rw [if_neg q]
    have : ¬ (lo+hi) / 2<cnt xs.toList j:=fun z=>q (hs.mpr z)
    exact zfx h fuel _ _ (by lia) h2 (by lia) (by lia)
  ·rw [if_neg hl];lia
theorem zdd {xs:Array Nat}(h:Rise xs.toList)(j:Nat) : below xs j=cnt xs.toList j :=
 zfx h xs.size 0 xs.size (by lia) (Nat.zero_le _) (by have:=zhD xs.toList j;simpa using this) (Nat.le_refl _)
theorem zjK:∀ {l:List Nat} {j:Nat},Rise l->(∀ x∈l.take (cnt l j),x<j)/\(∀ x∈l.drop (cnt l j),j<=x):=fun {l j} h=>by
 refine ⟨fun x hx=>?_,fun x hx=>?_⟩
 ·obtain ⟨i,hi,rfl⟩:=List.mem_iff_getElem.mp hx
  rw [List.length_take] at hi
  rw [List.getElem_take]
  exact (zaU h i _ (by simp [show i<l.length by lia]) j).mpr (by lia)
 ·obtain ⟨i,hi,rfl⟩:=List.mem_iff_getElem.mp hx
  rw [List.length_drop] at hi
  rw [List.getElem_drop]
  have:=zaU h (cnt l j+i) _ (show l[cnt l j+i]?=some (l[cnt l j+i]'(by lia)) by simp [show cnt l j+i<l.length by lia]) j
  lia
theorem toList_insertAt {α:Type}(xs:Array α)(p:Nat)(x:α) : (insertAt xs p x).toList=xs.toList.take p++x::xs.toList.drop p:=by
 unfold insertAt
 simp
 exact List.take_of_length_le (by simp)
theorem zeB {xs:Array Nat}{j:Nat}(h:Rise xs.toList)(hn:j∉xs.toList) : Rise (insertAt xs (below xs j) j).toList:=by
 rw [toList_insertAt,zdd h]
 obtain ⟨h1,h2⟩:=zjK (j:=j) h
 have h2':∀ x∈xs.toList.drop (cnt xs.toList j),j<x:=fun x hx=>by
  have:=h2 x hx
  have:x≠j:=fun e=>hn (e ▸ List.mem_of_mem_drop hx)
  lia
 refine List.pairwise_append.mpr ⟨h.sublist (List.take_sublist _ _),List.pairwise_cons.mpr ⟨h2',h.sublist (List.drop_sublist _ _)⟩,fun a ha b hb=>?_⟩
 rcases List.mem_cons.mp hb with z | z
 ·rw [z];exact h1 a ha
 ·have:=h1 a ha;have:=h2' b z;lia
theorem zbE {t:SetTable}{j:Nat}(h:Rise t.place.toList)(hs:t.slot j=.empty\/t.slot j=.dummy) : j∉t.place.toList:=fun hm=>by
 have e:t.place[below t.place j]?=some j:=by
  obtain ⟨i,hi,rfl⟩:=List.mem_iff_getElem.mp hm
  rw [Array.length_toList] at hi
  rw [zdd h]
  have hc:cnt t.place.toList (t.place.toList[i]'(by simpa using hi))=i:=by
   have h1:=zaU h i _ (show t.place.toList[i]?=some (t.place.toList[i]'(by simpa using hi)) by simp [hi]) (t.place.toList[i]'(by simpa using hi))
   have h2 : ¬ i<cnt t.place.toList (t.place.toList[i]'(by simpa using hi)):=fun z=>Nat.lt_irrefl _ (h1.mpr z)
   have h3:∀ k,k<i->k<cnt t.place.toList (t.place.toList[i]'(by simpa using hi)):=fun k hk=>by
    have hkl:k<t.place.toList.length:=by rw [Array.length_toList];lia
    have q:=zaU h k _ (show t.place.toList[k]?=some (t.place.toList[k]'hkl) by simp [hkl]) (t.place.toList[i]'(by simpa using hi))
    exact q.mp (List.pairwise_iff_getElem.mp h k i hkl (by simpa using hi) hk)
   cases i with
   | zero=>lia
   | succ i=>have:=h3 i (by lia);lia
  rw [hc]
  simp [hi]
 unfold slot at hs
 dsimp only at hs
 rw [e] at hs
 simp at hs
theorem zgk {mask finger moves:Nat}{led plain:Bool}{hashes:Array Int}{t:SetTable}{order:Array Nat}(e:SetTable.laid mask finger moves led plain hashes=some (t,order)) : Rise t.place.toList/\t.led=led:=by
 unfold SetTable.laid at e
 cases h:layClean mask hashes with
 | none=>rw [h] at e;cases e
 | some o =>
  rw [h] at e
  cases e
  refine ⟨?_,rfl⟩
  show Rise (((List.range (mask+1)).filterMap fun j=>(o.getD j none).map fun x=>(j,x)).map (·.1)).toArray.toList
  have:((List.range (mask+1)).filterMap fun j=>(o.getD j none).map fun x=>(j,x)).map (·.1)=(List.range (mask+1)).filter fun j=>(o.getD j none).isSome:=by
   generalize List.range (mask+1)=l
   induction l with
   | nil=>rfl
   | cons y l ih =>
    rw [List.filter_cons]
    cases q:o.getD y none with
    | none =>
     rw [List.filterMap_cons_none (by rw [q];rfl),ih]
     simp
    | some z =>
     rw [List.filterMap_cons_some (by rw [q];rfl),List.map_cons,ih]
     simp
  rw [this]
  rw [List.toList_toArray]
  exact (List.pairwise_lt_range (n:=mask+1)).sublist List.filter_sublist
theorem zho {t t':SetTable}{hashes:Array Int}{wanted:Nat}{order:Array Nat}(e:t.relaid hashes wanted=some (t',order)) : Rise t'.place.toList/\t'.led=t.led:=zgk e
def zi6:List Nat:=[8,16,32,64,128,256,512]
structure TOk (t:SetTable) (n:Nat) : Prop where
 sz:t.place.size=n
 rise:Rise t.place.toList
 inn:∀ x∈t.place.toList,x<=t.mask
 nod:t.dummies = #[]
 plain:t.plain=true
 msk:t.mask+1∈zi6
 room:n*5<t.mask*3
theorem TOk.fits {t:SetTable}{n:Nat}(h:TOk t n) : t.fits n=true:=by
 have h1:=h.sz
 have h2:=h.room
 unfold SetTable.fits SetTable.fill
 rw [h.nod,h1]
 simp
 lia
theorem slot_of {t:SetTable}{n:Nat}(h:TOk t n)(j:Nat)(hj:j∉t.place.toList) : t.slot j=.empty:=by
 unfold slot
 dsimp only
 have e1:(t.place[below t.place j]? == some j)=false:=by
  apply Bool.eq_false_iff.mpr
  intro z
  have:=eq_of_beq z
  exact hj (Array.mem_toList_iff.mpr (Array.mem_of_getElem? this))
 rw [e1,h.nod]
 simp [has]
theorem zhV {t:SetTable}(hd:t.dummies = #[])(j:Nat) : t.slot j≠.dummy:=by
 unfold slot
 dsimp only
 rw [hd]
 split
 ·intro z;cases z
 ·simp [has]
theorem zce {t:SetTable}{p:Probe}(h:p.more>0) : t.advance p={ p with j:=p.j+1,more:=p.more-1 }:=by unfold advance;rw [if_pos h]
theorem zca {t:SetTable}{p:Probe}(h : ¬ p.more>0) : t.advance p={ p with j:=(leap t.mask p.i p.perturb).1,more:=runEnd t.mask (leap t.mask p.i p.perturb).1-(leap t.mask p.i p.perturb).1,i:=(leap t.mask p.i p.perturb).1,perturb:=(leap t.mask p.i p.perturb).2 }:=by unfold advance;rw [if_neg h]
theorem zly {t:SetTable}(hd:t.dummies = #[])(h:Int)(R:Option Met->Prop)(hR:∀ j,t.slot j=.empty->R (some (.empty j none))) : ∀ (more j i p fuel:Nat),
  (∀ f,f+(more+1)=fuel->R (probe.go t (fun _=>h+1) h f { j:=(leap t.mask i p).1,more:=runEnd t.mask (leap t.mask i p).1-(leap t.mask i p).1,i:=(leap t.mask i p).1,perturb:=(leap t.mask i p).2,dummy:=none })) ->
  more+1<=fuel->R (probe.go t (fun _=>h+1) h fuel { j,more,i,perturb:=p,dummy:=none })
 | more,j,i,p,0,_,hf=>absurd hf (by lia)
 | more, j, i, p, fuel + 1, k, hf => by
  unfold probe.go
  dsimp only
  cases hs:t.slot j with
  | empty=>exact hR j hs
  | dummy=>exact absurd hs (zhV hd j)
  | live x =>
   dsimp only
   have ne:(h+1 == h)=false:=by
    apply Bool.eq_false_iff.mpr
    intro z
    have:=eq_of_beq z
    lia
   rw [ne]
   simp only [Bool.false_eq_true,if_false]
   cases more with
   | zero =>
    rw [zca (by simp)]
    exact k fuel (by lia)
   | succ more =>
    rw [zce (by simp)]
    exact zly hd h R hR more (j+1) i p fuel (fun f hf'=>k f (by lia)) (by lia)
theorem zj1 {t:SetTable}(hd:t.dummies = #[])(h:Int) : ∀ (n i p fuel:Nat),t.slot (lseq t.mask n i p).1=.empty->10*n+1<=fuel ->
  ∃ j,probe.go t (fun _=>h+1) h fuel { j:=i,more:=runEnd t.mask i-i,i,perturb:=p,dummy:=none }=some (.empty j none)/\t.slot j=.empty
 | 0, i, p, fuel, e, hf => by
  cases fuel with
  | zero=>lia
  | succ fuel =>
   refine ⟨i,?_,e⟩
   unfold probe.go
   have e':t.slot i=.empty:=e
   dsimp only
   rw [e']
 | n+1,i,p,fuel,e,hf=>by
  have hrun:runEnd t.mask i-i<=9:=by unfold runEnd;split<;>lia
  refine zly hd h (fun o=>∃ j,o=some (.empty j none)/\t.slot j=.empty) (fun j hj=>⟨j,rfl,hj⟩) _ i i p fuel (fun f hf'=>?_) (by lia)
  exact zj1 hd h n _ _ f e (by lia)
theorem zhs:∀ {l r:List Nat},l.Nodup->(∀ y∈l,y∈r)->l.length<=r.length
 | [],_,_,_=>Nat.zero_le _
 | x::l,r,nd,h=>by
  obtain ⟨n1,n2⟩:=List.nodup_cons.mp nd
  have hx:=h x List.mem_cons_self
  have:=zhs (r:=r.erase x) n2 fun y hy=>(List.mem_erase_of_ne (fun e:y=x=>n1 (e ▸ hy))).mpr (h y (List.mem_cons_of_mem _ hy))
  rw [List.length_erase_of_mem hx] at this
  have:0<r.length:=List.length_pos_of_mem hx
  rw [List.length_cons]
  lia
theorem zfA {t:SetTable}{n:Nat}(h:TOk t n)(x:Int) : ∃ j,t.freeSlot x=some (j,false)/\j∉t.place.toList/\j<=t.mask:=by
 have room:=h.room
 obtain ⟨e,he,hn⟩ : ∃ e,e<t.mask+1/\e∉t.place.toList:=by
  apply Classical.byContradiction
  intro hc
  have sub:∀ y∈List.range (t.mask+1),y∈t.place.toList:=fun y hy=>Classical.byContradiction fun z=>hc ⟨y,List.mem_range.mp hy,z⟩
  have:=zhs List.nodup_range sub
  rw [List.length_range,Array.length_toList,h.sz] at this
  lia
 have hc:=zgY (t.mask+1) h.msk
 obtain ⟨s,hs,es⟩:=reach hc (bits x % (t.mask+1)) (Nat.mod_lt _ (Nat.succ_pos _)) (bits x) (zka x) e he
 obtain ⟨j,ej,hj⟩:=zj1 h.nod x s (bits x % (t.mask+1)) (bits x) (10*turns t.mask) (by rw [es];exact slot_of h e hn) (by unfold turns;lia)
 refine ⟨j,?_,zbE h.rise (.inl hj),?_⟩
 ·unfold freeSlot probe probeStart
  dsimp only
  rw [ej]
  rfl
 ·refine probe_in t x (10*turns t.mask) _ j none ?_ ej
  exact ⟨Nat.le_of_lt_succ (Nat.mod_lt _ (Nat.succ_pos _)),Nat.le_of_lt_succ (Nat.mod_lt _ (Nat.succ_pos _)),by
   dsimp only
   have:=Nat.mod_lt (bits x) (show 0<t.mask+1 by lia)
   unfold runEnd
   split<;>lia⟩
where
 probe_in (t:SetTable) (h:Int) : ∀ (fuel:Nat) (p:Probe) (j:Nat) (d:Option Nat),(p.j<=t.mask/\p.i<=t.mask/\p.j+p.more<=t.mask)->probe.go t (fun _=>h+1) h fuel p=some (.empty j d)->j<=t.mask
  | 0,p,j,_,_,e=>by unfold probe.go at e;cases e
  | fuel + 1, p, j, d, hp, e => by
   have adv:∀ q:Probe,(q.j<=t.mask/\q.i<=t.mask/\q.j+q.more<=t.mask)->((t.advance q).j<=t.mask/\(t.advance q).i<=t.mask/\(t.advance q).j+(t.advance q).more<=t.mask):=fun q hq=>by
    by_cases hm:q.more>0
    ·rw [zce hm];dsimp only;lia
    ·rw [zca hm]
     dsimp only
     have hl:(leap t.mask q.i q.perturb).1<=t.mask:=Nat.le_of_lt_succ (Nat.mod_lt _ (Nat.succ_pos _))
     refine ⟨hl,hl,?_⟩
     unfold runEnd
     split<;>lia
   unfold probe.go at e
   cases hs:t.slot p.j with
   | empty=>rw [hs] at e;cases e;exact hp.1
   | dummy=>rw [hs] at e;exact probe_in t h fuel _ j d (adv { p with dummy:=some p.j } hp) e
   | live x =>
    rw [hs] at e
    dsimp only at e
    split at e
    ·cases e
    ·exact probe_in t h fuel _ j d (adv _ hp) e
theorem zf6 (t:SetTable)(hp:t.plain=true)(hashes:Array Int){wanted:Nat}(hw:wanted<512)(hb:hashes.size*2<=wanted) :
  ∃ t' order,t.relaid hashes wanted=some (t',order)/\TOk t' hashes.size/\t'.led=t.led/\order.toList.Perm (List.range hashes.size):=by
 obtain ⟨t',order,e,h1,h2,h3,h4,h5,h6,h7⟩:=zd9 t hashes hw (by lia)
 obtain ⟨m,hm,em,hlt⟩:=zbn hw
 have hm8:8<=m:=by
  have:∀ m∈[8,16,32,64,128,256,512],8<=m:=by decide
  exact this m hm
 rw [em] at h1
 refine ⟨t',order,e,⟨h6,(zho e).1,fun x hx=>?_,h2,h5.trans hp,?_,?_⟩,h4,h7⟩
 ·rw [h1]
  unfold relaid SetTable.laid at e
  rw [em] at e
  cases q:layClean (m-1) hashes with
  | none=>rw [q] at e;cases e
  | some o =>
   rw [q] at e
   cases e
   have hx':x∈((List.range (m-1+1)).filterMap fun j=>(o.getD j none).map fun x=>(j,x)).map (·.1):=by simpa using hx
   obtain ⟨y,hy,rfl⟩:=List.mem_map.mp hx'
   obtain ⟨j,hj,hjy⟩:=List.mem_filterMap.mp hy
   have:=List.mem_range.mp hj
   cases q2:o.getD j none with
   | none=>rw [q2] at hjy;cases hjy
   | some z=>rw [q2] at hjy;cases hjy;show j<=m-1;lia
 ·rw [h1,show m-1+1=m by lia];exact hm
 ·rw [h1];lia
theorem zbM {α:Type}(es:Array α)(order:Array Nat)(h:order.toList.Perm (List.range es.size)) : (order.filterMap (es[·]?)).toList.Perm es.toList:=by
 rw [Array.toList_filterMap]
 have:=h.filterMap (fun i=>es[i]?)
 exact this.trans (by rw [filterMap_getElem?_range])
theorem zfs {α β:Type}{R:α->β->Prop}{xs ys:List α}(p:ys.Perm xs) : ∀ {ss:List β},Paired R xs ss->∃ ts,ts.Perm ss/\Paired R ys ts:=by
 induction p with
 | nil=>intro ss h;exact ⟨ss,.refl _,h⟩
 | cons x _ ih =>
  intro ss h
  cases h with
  | cons r t=>obtain ⟨ts,p,q⟩:=ih t;exact ⟨_::ts,p.cons _,.cons r q⟩
 | swap x y l =>
  intro ss h
  cases h with
  | cons r t=>cases t with | cons r' t'=>exact ⟨_::_::_,.swap _ _ _,.cons r' (.cons r t')⟩
 | trans _ _ ih1 ih2 =>
  intro ss h
  obtain ⟨ts,p,q⟩:=ih2 h
  obtain ⟨us,p',q'⟩:=ih1 q
  exact ⟨us,p'.trans p,q'⟩
def zn9 (e:Int×Value)(n:Int) : Prop:=e.1=hashInt n/\∃ t,e.2=.int n t
abbrev byTx (w:World) : Bool:=w.params.followText "set-order"
theorem zdv {α β:Type}{R:α->β->Prop} : ∀ {xs:List α} {ys:List β},Paired R xs ys->xs.length=ys.length
 | _,_,.nil=>rfl
 | _,_,.cons _ t=>by rw [List.length_cons,List.length_cons,zdv t]
theorem zd0 {α β:Type}{R:α->β->Prop} : ∀ {xs:List α} {ys:List β} {x:α},Paired R xs ys->x∈xs->∃ y∈ys,R x y
 | _,_,_,.nil,h=>by cases h
 | _,_,x,.cons r t,h=>by
  rcases List.mem_cons.mp h with z | z
  ·subst z;exact ⟨_,List.mem_cons_self,r⟩
  ·obtain ⟨y,h1,h2⟩:=zd0 t z;exact ⟨y,List.mem_cons_of_mem _ h1,h2⟩
theorem zhL {α β:Type}{R:α->β->Prop} : ∀ {xs:List α} {ys:List β} {y:β},Paired R xs ys->y∈ys->∃ x∈xs,R x y
 | _,_,_,.nil,h=>by cases h
 | _,_,y,.cons r t,h=>by
  rcases List.mem_cons.mp h with z | z
  ·subst z;exact ⟨_,List.mem_cons_self,r⟩
  ·obtain ⟨x,h1,h2⟩:=zhL t z;exact ⟨x,List.mem_cons_of_mem _ h1,h2⟩
section
variable {prog:Program}{w:World}{A:Around}{E:Value->Shared->Prop}{s:Shared}
end
theorem zao {M:Model}{A:Around}{α:Type}{c:Prop}[Decidable c]{a b:Sem α}{Q:α->Shared->Prop}{E:Value->Shared->Prop}{s:Shared}(hc : ¬ c)(h:wpAny M A b Q E s) : wpAny M A (if c then a else b) Q E s:=by rw [if_neg hc];exact h
theorem zbi {M:Model}{A:Around}{α:Type}{c:Prop}[Decidable c]{a b:Sem α}{Q:α->Shared->Prop}{E:Value->Shared->Prop}{s:Shared}(hc:c)(h:wpAny M A a Q E s) : wpAny M A (if c then a else b) Q E s:=by rw [if_pos hc];exact h
theorem ze8 {α:Type} : ∀ {l:List α} {i:Nat} (h:i<l.length),(l[i]::l.eraseIdx i).Perm l
 | [],_,h=>absurd h (Nat.not_lt_zero _)
 | x::l,0,_=>.refl _
 | x::l,i+1,h=>(List.Perm.swap _ _ _).trans ((ze8 (l:=l) (i:=i) (by simpa using h)).cons x)
theorem zjv {α:Type}(next:Nat->Nat) : ∀ (fuel k:Nat) (left:List α) (out:Array α),left.length=fuel->(pickOrder.go next fuel k left out).toList.Perm (out.toList++left)
 | 0,_,left,out,h=>by
  have:left=[]:=List.length_eq_zero_iff.mp h
  subst this
  unfold pickOrder.go
  rw [List.append_nil]
 | fuel+1,k,left,out,h=>by
  unfold pickOrder.go
  have hl:next k % left.length<left.length:=Nat.mod_lt _ (by lia)
  rw [List.getElem?_eq_getElem hl]
  dsimp only
  refine (zjv next fuel (k+1) _ _ (by rw [List.length_eraseIdx_of_lt hl];lia)).trans ?_
  rw [Array.toList_push,List.append_assoc]
  refine List.Perm.append_left _ ?_
  show (left[next k % left.length]::left.eraseIdx (next k % left.length)).Perm left
  exact ze8 hl
theorem zf4 {α:Type}(next:Nat->Nat)(xs:Array α) : (pickOrder next xs).toList.Perm xs.toList:=by
 unfold pickOrder
 have:=zjv next xs.size 0 xs.toList #[] (by simp)
 simpa using this
section
variable {prog:Program}{w:World}{A:Around}{E:Value->Shared->Prop}{s:Shared}
structure RSet (w:World) (h:Heap) (a:Addr) (ns:List Int) (o:Obj) (es:Array (Int×Value)) (ep:Nat) (t:SetTable) : Prop where
 at':h.get? a=some o
 ex:o.ExactSet
 dat:o.data=.set es ep t
 prs:Paired zn9 es.toList ns
 nd:ns.Nodup
 ok:TOk t es.size
 led:byTx w=false->t.led=true
theorem RSet.state {a:Addr}{ns:List Int}{o:Obj}{es:Array (Int×Value)}{ep:Nat}{t:SetTable}{Q:(Array (Int×Value)×Nat×SetTable)->Shared->Prop}(x:RSet w s.heap a ns o es ep t)(h:Q (es,ep,t) s) :
  wpAny (model prog w) A (setState a) Q E s:=wpAny_setState_of x.at' x.dat x.ok.fits h
end
section
variable {prog:Program}{w:World}{A:Around}{E:Value->Shared->Prop}{s:Shared}
theorem zhO (led:Bool) : TOk (SetTable.fresh 0 0 led) 0:=⟨rfl,List.Pairwise.nil,(fun x h=>nomatch h),rfl,rfl,by show (8:Nat)∈zi6;decide,by show 0*5<7*3;decide⟩
abbrev zai (led:Bool) : Obj:={ cls:=.type "set", dict:=none,data:=.set #[] 0 (.fresh 0 0 led) }
theorem zdW {Q:Value->Shared->Prop}(h:Q (.ref s.heap.objs.size) { s with heap:=s.heap.push (zai (!byTx w)) }) : wpAny (model prog w) A (newSet (.type "set")) Q E s:=by
 unfold newSet setsByText
 refine wpAny_bind (wpAny_bind (wpAny_askSetting (wpAny_pure ?_)));dsimp only
 simp only [newObj]
 exact wpAny_bind (wpAny_alloc (wpAny_pure h))
end
theorem zaO:Slot "set_iterator" "__next__" "set_iterator.__next__" := .of (owner := "set_iterator") (n := "__next__") (by rw [typeLookup_type,builtinLookup_eq_fast];kernel_rfl) (by decide +kernel) (by decide +kernel) (by decide +kernel) (by first | exact .inl (by decide +kernel) | exact .inr (by decide +kernel)) (by rw [isSubtype_type];kernel_rfl)
theorem zdf:Slot "set_iterator" "__iter__" "set_iterator.__iter__" := .of (owner := "set_iterator") (n := "__iter__") (by rw [typeLookup_type,builtinLookup_eq_fast];kernel_rfl) (by decide +kernel) (by decide +kernel) (by decide +kernel) (by first | exact .inl (by decide +kernel) | exact .inr (by decide +kernel)) (by rw [isSubtype_type];kernel_rfl)
theorem zcz:entryFor table "set_iterator.__next__" = some Builtin.«set_iterator.__next__» := entryFor_of_tree (by kernel_rfl)
theorem zc4 (a:Value) : argsOk "set_iterator.__next__" ⟨[a],[]⟩:=by unfold argsOk;kernel_rfl
theorem zed:entryFor table "set.__iter__" = some Builtin.«frozenset.__iter__» := entryFor_alias (id' := "frozenset.__iter__") (by kernel_rfl) rfl (by decide +kernel) (by kernel_rfl)
theorem zfK:entryFor table "set.__or__" = some Builtin.«frozenset.__or__» := entryFor_alias (id' := "frozenset.__or__") (by kernel_rfl) rfl (by decide +kernel) (by kernel_rfl)
def zmp (h:Heap)(it a:Addr)(slot i n ep:Nat) : Prop:=∃ o,h.get? it=some o/\o.cls=.type "set_iterator" /\ o.data=.fields #[rawInt slot,rawInt i,.ref a,rawInt n,rawInt ep]
section
variable {prog:Program}{w:World}{A:Around}{E:Value->Shared->Prop}{s:Shared}
def walked (w:World)(a:Addr)(es:Array (Int×Value))(ep:Nat) : Array (Int×Value):=if byTx w then pickOrder (w.params.setOrder a ep) es else es
theorem zbL (w:World)(a:Addr)(es:Array (Int×Value))(ep:Nat) : (walked w a es ep).toList.Perm es.toList:=by
 unfold walked
 split
 ·exact zf4 _ _
 ·exact .refl _
theorem zmH {l:List Nat}(h:Rise l){i:Nat}(hi:i<l.length) : cnt l (l[i]+1)=i+1:=by
 have below:∀ k (hk:k<l.length),k<=i->k<cnt l (l[i]+1):=fun k hk hki=>by
  refine (zaU h k l[k] (by simp [hk]) _).mp ?_
  rcases Nat.lt_or_eq_of_le hki with z | z
  ·have:=List.pairwise_iff_getElem.mp h k i hk hi z;lia
  ·subst z;lia
 have above:∀ k (hk:k<l.length),i<k->¬ k<cnt l (l[i]+1):=fun k hk hik z=>by
  have q:=(zaU h k l[k] (by simp [hk]) _).mpr z
  have:=List.pairwise_iff_getElem.mp h i k hi hk hik
  lia
 have h1:=below i hi (Nat.le_refl _)
 have h3:=zhD l (l[i]+1)
 by_cases hlast:i+1<l.length
 ·have:=above (i+1) hlast (by lia)
  lia
 ·lia
theorem zjl {h h':Heap}{it a:Addr}{slot i n ep:Nat}(x:zmp h it a slot i n ep)(k:∀ o,h.get? it=some o->h'.get? it=some o) : zmp h' it a slot i n ep:=let ⟨o,e,r⟩:=x;⟨o,k _ e,r⟩
end
end Wr
namespace Wr
open PySem SetTable PyProof.Rows
section
variable {prog:Program}{w:World}{A:Around}{E:Value->Shared->Prop}{s:Shared}
end
section
variable {prog:Program}{w:World}{A:Around}{E:Value->Shared->Prop}{s:Shared}
theorem collect_byD {c d:Addr}{T:String}{n:Nat}{P:Nat->Value->Prop}{St:Addr->Nat->Heap->Prop}{Q:List Value->Shared->Prop}(hc:c<s.heap.objs.size)(hd:d<s.heap.objs.size)
  (hT:∀ h':Heap,(∀ b o,s.heap.get? b=some o->h'.get? b=some o)->({ s with heap:=h' } : Shared).TypeIs (.ref c) T) (h1:(Value.type T == Value.type "list")=false) (h2:(Value.type T == Value.type "tuple")=false)
  (hit:∀ (h':Heap) (Q':Value->Shared->Prop),(∀ b o,s.heap.get? b=some o->h'.get? b=some o)->s.heap.objs.size<=h'.objs.size ->
   (∀ it h'',h'.objs.size<=it->(∀ b o,h'.get? b=some o->h''.get? b=some o)->St it 0 h''->Q' (.ref it) { s with heap:=h'' })->wpAny (model prog w) A.in1 (pyIter (.ref c)) Q' E { s with heap:=h' })
  (hint:∀ (h':Heap) (Q':Bool->Shared->Prop),(∀ b o,s.heap.get? b=some o->h'.get? b=some o)->Q' false { s with heap:=h' }->wpAny (model prog w) A.in1 (Builtin.List.listLengthHint (.ref c)) Q' E { s with heap:=h' })
  (W:∀ it,d≠it->Walks prog w A.in1 it [it,d] [it] n P (St it)) (hn:n<=sizeLine)
  (hQ:∀ h' tk acc,(∀ b o,s.heap.get? b=some o->h'.get? b=some o)->s.heap.objs.size<h'.objs.size->s.toks<=tk->ItemsOf P acc n->Q acc.toList { s with heap:=h',toks:=tk }) : wpAny (model prog w) A (collect (.ref c)) Q E s:=by
 unfold collect
 refine wpAny_bind (wpAny_runValue (codeAny_builtin F.entry_proto_collect ?_));rw [Around.under_plainId F.plain_proto_collect _]
 show wpAny _ A.in1 (newList [] >>= fun l=>again (.builtin "list.__iadd__" ⟨[l,.ref c],[]⟩)) _ _ s
 refine wpAny_bind (wpAny_newObj_type ?_ (by size_fits))
 refine wpAny_pure ⟨plainId_quiet F.plain_list_iadd _,codeAny_builtin F.entry_list_iadd ?_⟩;rw [Around.under_plainId F.plain_list_iadd _]
 show wpAny _ A.in1 (Builtin.List.listExtendWith (.ref s.heap.objs.size) (.ref c) (.ref s.heap.objs.size)) _ _ _
 unfold Builtin.List.listExtendWith
 have k0:∀ b o,s.heap.get? b=some o->(s.heap.push (seqObj "list" #[] 0)).get? b=some o:=fun b o e=>Heap.get?_push_of_some _ e
 refine wpAny_bind (wpAny_typeOf (hT _ k0) ?_)
 have hS:Builtin.List.listSameRef (.ref s.heap.objs.size) (.ref c)=false:=by simp [Builtin.List.listSameRef];exact Nat.ne_of_gt hc
 simp only [hS,h1,h2,Bool.or_false,Bool.false_eq_true,if_false]
 refine wpAny_bind (hit _ _ k0 (by rw [Heap.size_push];lia) fun it h'' hge kk st=>?_)
 have k2:∀ b o,s.heap.get? b=some o->h''.get? b=some o:=fun b o e=>kk b o (k0 b o e)
 refine wpAny_bind (wpAny_holding (hint h'' _ k2 ?_))
 have hitS:s.heap.objs.size<it:=Nat.lt_of_lt_of_le (by rw [Heap.size_push];exact Nat.lt_succ_self _) hge
 have hcit:d≠it:=Nat.ne_of_lt (Nat.lt_trans hd hitS)
 have hSf:s.heap.objs.size∉[it,d]:=by
  intro z
  rcases List.mem_cons.mp z with z | z
  ·exact absurd z (Nat.ne_of_lt hitS)
  ·exact absurd (List.mem_singleton.mp z) (Nat.ne_of_gt hd)
 have hS2:h''.get? s.heap.objs.size=some (seqObj "list" #[] 0):=kk _ _ (Heap.get?_push_size _ rfl)
 have loop:∀ (h3:Heap) (cc:Nat),h3.get? s.heap.objs.size=some (seqObj "list" #[] cc)->(∀ b o,b≠s.heap.objs.size->h''.get? b=some o->h3.get? b=some o) ->
   codeAny (model prog w) A (.builtin "list.extend.loop" ⟨[.ref s.heap.objs.size,.ref it,.ref s.heap.objs.size],[]⟩) (fun r s'=>match r with
    | .ok (.ret v)=>wpAny (model prog w) A (match v with
     | .ref a=>(do let o <- load a;match o.data with | .seq xs _=>pure xs.toList | _=>unsupported "internal:collect")
     | _=>unsupported "internal:collect") Q E s'
    | .ok _=>False
    | .error e=>E e s') { s with heap:=h3 }:=by
  intro h3 cc hS3 k3
  have st3:St it 0 h3:=(W it hcit).frame 0 h'' h3 st fun b hb o e=>k3 b o (fun z=>hSf (z ▸ hb)) e
  refine codeAny_extend_loopS (W it hcit).toS hn s.heap.objs.size hSf (.ref s.heap.objs.size) n 0 { s with heap:=h3 } #[] cc (by lia) (Nat.zero_le _) st3 hS3 (ItemsOf.nil P) fun s' acc' c' hm hS' hacc=>?_
  refine wpAny_bind (wpAny_load hS' (wpAny_pure ?_))
  obtain ⟨h4,g4,d4,t4,o4⟩:=s'
  obtain ⟨m1,m2,m3,m4,m5⟩:=hm
  obtain rfl:g4=s.gens:=m2
  obtain rfl:d4=s.drawn:=m3
  obtain rfl:o4=s.os:=m4
  refine hQ h4 t4 acc' (fun b o e=>?_) (Heap.lt_size hS') m5 hacc
  have hb:b<s.heap.objs.size:=Heap.lt_size e
  refine m1 b o (fun z=>?_) (k3 b o (Nat.ne_of_lt hb) (k2 b o e))
  rcases List.mem_cons.mp z with z | z
  ·exact absurd z (Nat.ne_of_lt hb)
  ·exact absurd (List.mem_singleton.mp z) (Nat.ne_of_lt (Nat.lt_trans hb hitS))
 split
 ·refine wpAny_bind (wpAny_rule (wpAny_bind ?_))
  show wpAny _ A.in1 (updateSeq s.heap.objs.size (·.push .none) >>= fun _=>updateSeq s.heap.objs.size (·.pop)) _ _ _
  refine wpAny_bind (wpAny_updateSeq hS2 rfl ?_)
  have q1:=Heap.get?_update_self (Obj.mapSeq (·.push Value.none)) hS2 rfl
  refine wpAny_updateSeq q1 rfl ?_
  have q2:=Heap.get?_update_self (Obj.mapSeq (·.pop)) q1 rfl
  exact wpAny_pure ⟨plainId_quiet F.plain_extend_loop _,loop _ _ q2 fun b o hb e=>(Heap.get?_update_other _ _ (Ne.symm hb)).trans ((Heap.get?_update_other _ _ (Ne.symm hb)).trans e)⟩
 ·exact wpAny_pure ⟨plainId_quiet F.plain_extend_loop _,loop _ _ hS2 fun b o _ e=>e⟩
theorem ziK {c:Addr}{T:String}{n:Nat}{P:Nat->Value->Prop}{St:Addr->Nat->Heap->Prop}{Q:List Value->Shared->Prop}(hc:c<s.heap.objs.size)
  (hT:∀ h':Heap,(∀ b o,s.heap.get? b=some o->h'.get? b=some o)->({ s with heap:=h' } : Shared).TypeIs (.ref c) T) (h1:(Value.type T == Value.type "list")=false) (h2:(Value.type T == Value.type "tuple")=false)
  (hit:∀ (h':Heap) (Q':Value->Shared->Prop),(∀ b o,s.heap.get? b=some o->h'.get? b=some o)->s.heap.objs.size<=h'.objs.size ->
   (∀ it h'',h'.objs.size<=it->(∀ b o,h'.get? b=some o->h''.get? b=some o)->St it 0 h''->Q' (.ref it) { s with heap:=h'' })->wpAny (model prog w) A.in1 (pyIter (.ref c)) Q' E { s with heap:=h' })
  (hint:∀ (h':Heap) (Q':Bool->Shared->Prop),(∀ b o,s.heap.get? b=some o->h'.get? b=some o)->Q' false { s with heap:=h' }->wpAny (model prog w) A.in1 (Builtin.List.listLengthHint (.ref c)) Q' E { s with heap:=h' })
  (W:∀ it,c≠it->Walks prog w A.in1 it [it,c] [it] n P (St it)) (hn:n<=sizeLine)
  (hQ:∀ h' tk acc,(∀ b o,s.heap.get? b=some o->h'.get? b=some o)->s.heap.objs.size<h'.objs.size->s.toks<=tk->ItemsOf P acc n->Q acc.toList { s with heap:=h',toks:=tk }) : wpAny (model prog w) A (collect (.ref c)) Q E s :=
 collect_byD hc hc hT h1 h2 hit hint W hn hQ
end
section
variable {prog:Program}{w:World}{A:Around}{E:Value->Shared->Prop}{s:Shared}
theorem zkx {c:Addr}{Q:Bool->Shared->Prop}(hT:s.TypeIs (.ref c) "set")(h:Q false s) : wpAny (model prog w) A (Builtin.List.listLengthHint (.ref c)) Q E s:=by
 unfold Builtin.List.listLengthHint
 refine wpAny_bind (wpAny_specialOf hT F.slot_set_len.lookup ?_)
 have hsp:splitId "set.__len__" = some ("set","__len__"):=by kernel_rfl
 dsimp only
 rw [hsp]
 dsimp only
 refine wpAny_bind (wpAny_isInstance hT sub_set_self ?_)
 refine zao (by simp) ?_
 refine zbi (by kernel_rfl) ?_
 exact wpAny_bind (wpAny_typeOf hT (wpAny_pure h))
end
end Wr
namespace L2
open PySem PySem.Spec PyProof.Rows
theorem pz {n:Int}(h:0<n:=by decide) : 0<n:=h
theorem zaF {x:Str}{A B:Prop}(h:A) : if decide (V.str x=V.str x)=true then A else B:=by rw [if_pos (by simp)];exact h
theorem iteSF {x y:Str}{A B:Prop}(ne:x≠y)(h:B) : if decide (V.str x=V.str y)=true then A else B:=by rw [if_neg (by simp [ne])];exact h
theorem ixTc {K:PySem.W.Frag}{σ:St}{H:Hp}{t:Addr}{xs:List V}{i:Int}{v:V}{Q:V->Hp->Prop}(h:H t=some (.tup xs))(e:atI xs i=some v)(k:Q v H) : tC (.int i) σ H fun y H2=>rIxT K (.ref t) y H2 Q:=⟨t,xs,i,v,rfl,rfl,SqT.of h,e,k⟩
theorem ixLc {K:PySem.W.Frag}{σ:St}{H:Hp}{t:Addr}{xs:List V}{i:Int}{v:V}{Q:V->Hp->Prop}(h:H t=some (.lst xs))(e:atI xs i=some v)(k:Q v H) : tC (.int i) σ H fun y H2=>rIxL K (.ref t) y H2 Q:=⟨t,xs,i,v,rfl,rfl,SqL.of h,e,k⟩
theorem ixT {K:PySem.W.Frag}{H:Hp}{t:Addr}{xs:List V}{i:Int}{v:V}{Q:V->Hp->Prop}(h:H t=some (.tup xs))(e:atI xs i=some v)(k:Q v H) : rIxT K (.ref t) (.int i) H Q:=⟨t,xs,i,v,rfl,rfl,SqT.of h,e,k⟩
theorem ixL {K:PySem.W.Frag}{H:Hp}{t:Addr}{xs:List V}{i:Int}{v:V}{Q:V->Hp->Prop}(h:H t=some (.lst xs))(e:atI xs i=some v)(k:Q v H) : rIxL K (.ref t) (.int i) H Q:=⟨t,xs,i,v,rfl,rfl,SqL.of h,e,k⟩
theorem fresh {A:Hp}{p:Addr}(o:HO)(h:A p=none) : ∃ H',upd A p o=H'/\Same A H'/\H' p=some o:=⟨_,rfl,(Same.refl A).upd h,zaa⟩
theorem gE {α:Type}{l:List α}{i:Nat}{x:α}(h:l[i]?=some x) : i<l.length:=(List.getElem?_eq_some_iff.mp h).1
theorem gM {α:Type}{l:List α}{i:Nat}{x:α}(h:l[i]?=some x) : x∈l:=List.mem_of_getElem? h
theorem zhE {ns:List Int}{i:Int}(h0:0<=i)(h1:i<ns.length) : ∃ n,n∈ns/\atI (ns.map V.int) i=some (.int n):=by
 obtain ⟨j,rfl⟩ : ∃ j:Nat,i=(j:Int):=⟨i.toNat,by lia⟩
 have hl:j<ns.length:=by lia
 exact ⟨ns[j],List.getElem_mem hl,za1 (by simp [hl])⟩
structure Blts (mg:Str->Option Value) : Prop where
 sorted:mg "sorted" = none
 max:mg "max" = none
 min:mg "min" = none
 any:mg "any" = none
 all:mg "all" = none
 sum:mg "sum" = none
 len:mg "len" = none
 range:mg "range" = none
 isinstance:mg "isinstance" = none
 list:mg "list" = none
 tuple:mg "tuple" = none
 int:mg "int" = none
 bool:mg "bool" = none
 str:mg "str" = none
 dict:mg "dict" = none
 set:mg "set" = none
 zip:mg "zip" = none
 enumerate:mg "enumerate" = none
 reversed:mg "reversed" = none
theorem dI (a b:Int) : decide (V.int a=V.int b)=decide (a=b):=by
 by_cases h:a=b<;>simp [h]
theorem zaR {r:List Int}{i:Nat}(h:i<r.length) : r[i]=r.getD i 0:=by simp [h]
theorem FnOk.none {P:Program}{w:World}{K:W.Frag}{mg:Str->Option Value}{base:Heap}{CX:CXT}{k:Nat}{f:Addr}{fd:FuncData}{ps:List Str}{sp:Sp}(h:∀ vs H Q E,¬ sp vs H Q E) : FnOk P w K mg base CX k f fd ps sp :=
 ⟨fun vs H Q E q=>absurd q (h vs H Q E),fun _ _ _ H _ _ vs Q E _ _ _ _ q=>absurd q (h vs H Q E)⟩
theorem zmU {xs:List Int}{i:Nat}{x:V}(h:(xs.map V.int)[i]?=some x) : ∃ c,x=V.int c:=by
 rw [List.getElem?_map] at h
 cases e:xs[i]? with
 | none=>rw [e] at h;cases h
 | some z=>rw [e] at h;exact ⟨z,(Option.some.inj h).symm⟩
def RowAt (H:Hp)(v:V)(ns:List Int) : Prop:=∃ t,v=.ref t/\H t=some (.tup (ns.map V.int))
theorem RowAt.same {H H':Hp}{v:V}{ns:List Int}(e:Same H H')(h:RowAt H v ns) : RowAt H' v ns:=by obtain ⟨t,h1,h2⟩:=h;exact ⟨t,h1,e _ _ h2⟩
theorem rS {H H':Hp}{xs:List V}{rs:List (List Int)}(s:Same H H')(p:Paired (RowAt H) xs rs) : Paired (RowAt H') xs rs:=Paired.mapP p fun _ _ z=>RowAt.same s z
theorem zb2 {ns:List Int}{i:Nat}(h:i<ns.length) : atI (ns.map V.int) (i:Int)=some (.int ns[i]):=za1 (by simp [h])
theorem cutN (xs:List V)(m:Nat) : cutV xs none (some (m:Int))=xs.take m:=by
 unfold cutV
 have e1:HT.sIx xs.length 0 none=0:=rfl
 have e2:HT.sIx xs.length xs.length (some (m:Int))=min m xs.length:=HT.sIx_nat ..
 rw [e1,e2,List.drop_zero,Nat.sub_zero]
 by_cases h:m<=xs.length
 ·rw [Nat.min_eq_left h]
 ·rw [Nat.min_eq_right (by lia),List.take_of_length_le (Nat.le_refl _),List.take_of_length_le (by lia)]
theorem zkv (ns:List Int)(m:Nat) : cutV (ns.map V.int) none (some (m:Int))=(ns.take m).map V.int:=by rw [cutN,List.map_take]
inductive Cond where
 | same (i j:Nat) | isv (i:Nat) (v:Int) | less (i j:Nat) | undr (i:Nat) (v:Int)
 | both (a b:Cond) | either (a b:Cond) | neg (a:Cond)
namespace Cond
def sem:Cond->List Int->Bool
 | same i j,r=>decide (r.getD i 0=r.getD j 0)
 | isv i v,r=>decide (r.getD i 0=v)
 | less i j,r=>decide (r.getD i 0<r.getD j 0)
 | undr i v,r=>decide (r.getD i 0<v)
 | both a b,r=>a.sem r&&b.sem r
 | either a b,r=>a.sem r||b.sem r
 | neg a,r=>!a.sem r
def ok (n:Nat) : Cond->Prop
 | same i j=>i<n/\j<n
 | isv i _=>i<n
 | less i j=>i<n/\j<n
 | undr i _=>i<n
 | both a b=>a.ok n/\b.ok n
 | either a b=>a.ok n/\b.ok n
 | neg a=>a.ok n
def deep:Cond->Nat
 | both a b=>max a.deep b.deep+1
 | either a b=>max a.deep b.deep+1
 | neg a=>a.deep+1
 | _=>0
end Cond
def CondAt (H:Hp) : V->Cond->Prop
 | v,.same i j=>∃ t,v=.ref t/\H t=some (.tup [.str "same", .int i,.int j])
 | v,.isv i n=>∃ t,v=.ref t/\H t=some (.tup [.str "is", .int i,.int n])
 | v,.less i j=>∃ t,v=.ref t/\H t=some (.tup [.str "below", .int i,.int j])
 | v,.undr i n=>∃ t,v=.ref t/\H t=some (.tup [.str "under", .int i,.int n])
 | v,.both a b=>∃ t va vb,v=.ref t/\H t=some (.tup [.str "both", va,vb])/\CondAt H va a/\CondAt H vb b
 | v,.either a b=>∃ t va vb,v=.ref t/\H t=some (.tup [.str "either", va,vb])/\CondAt H va a/\CondAt H vb b
 | v,.neg a=>∃ t va,v=.ref t/\H t=some (.tup [.str "not", va])/\CondAt H va a
theorem CondAt.same {H H':Hp}(e:Same H H') : ∀ {c:Cond} {v:V},CondAt H v c->CondAt H' v c
 | .same i j,_,⟨t,h1,h2⟩=>⟨t,h1,e _ _ h2⟩
 | .isv i n,_,⟨t,h1,h2⟩=>⟨t,h1,e _ _ h2⟩
 | .less i j,_,⟨t,h1,h2⟩=>⟨t,h1,e _ _ h2⟩
 | .undr i n,_,⟨t,h1,h2⟩=>⟨t,h1,e _ _ h2⟩
 | .both a b,_,⟨t,va,vb,h1,h2,h3,h4⟩=>⟨t,va,vb,h1,e _ _ h2,CondAt.same e h3,CondAt.same e h4⟩
 | .either a b,_,⟨t,va,vb,h1,h2,h3,h4⟩=>⟨t,va,vb,h1,e _ _ h2,CondAt.same e h3,CondAt.same e h4⟩
 | .neg a,_,⟨t,va,h1,h2,h3⟩=>⟨t,va,h1,e _ _ h2,CondAt.same e h3⟩
def zb7 (n:Nat) : Sp:=fun vs H Q _=>∃ (v rv:V) (c:Cond) (row:List Int),vs=[v,rv]/\CondAt H v c/\RowAt H rv row/\c.ok row.length/\c.deep<n/\Q (.bl (c.sem row)) H
theorem zkN {X:Cx} : JOp X (binaryOp .Add) rCat:=⟨zm7⟩
theorem zcE {X:Cx} : JC X (.type "tuple") (fun xs H Q=>∃ p ys,xs=[.ref p]/\((SqL X.K H p ys/\∀ l,H l=none->Q (.ref l) (upd H l (.tup ys)))\/(SqT X.K H p ys/\Q (.ref p) H))):=⟨zfF⟩
section
variable {κ:Type}[DecidableEq κ]
def valV (kvs:List (κ×V))(k:κ) : Option V:=(kvs.find? fun kv=>decide (kv.1=k)).map (·.2)
def putK (kvs:List (κ×V))(k:κ)(v:V) : List (κ×V) :=
 if (kvs.any fun kv=>decide (kv.1=k))=true then kvs.map (fun kv=>if kv.1=k then (kv.1,v) else kv) else kvs++[(k,v)]
theorem zcp {p:κ×V}{r:List (κ×V)}{k:κ}(e:p.1=k) : valV (p::r) k=some p.2:=by simp [valV,List.find?_cons,e]
theorem zbc {p:κ×V}{r:List (κ×V)}{k:κ}(e : ¬ p.1=k) : valV (p::r) k=valV r k:=by simp [valV,List.find?_cons,e]
theorem zfo (k:κ) : ∀ kvs:List (κ×V),(kvs.any fun kv=>decide (kv.1=k))=(valV kvs k).isSome
 | []=>rfl
 | p::r=>by
  rw [List.any_cons]
  by_cases e:p.1=k
  ·simp only [zcp e,decide_eq_true e,Bool.true_or,Option.isSome_some]
  ·rw [zbc e,decide_eq_false e,Bool.false_or];exact zfo k r
theorem zcF (kvs:List (κ×V))(k:κ)(v:V) : (putK kvs k v).length<=kvs.length+1:=by
 unfold putK
 split
 ·rw [List.length_map];lia
 ·rw [List.length_append,List.length_cons,List.length_nil];lia
theorem zdR {kvs:List (κ×V)}{k:κ}(v:V)(h:valV kvs k=none) : putK kvs k v=kvs++[(k,v)]:=by
 unfold putK
 rw [zfo,h]
 exact if_neg (by decide)
theorem RelO.isSome_eq {o:Option V}{u:Option Value}(r:RelO o u) : o.isSome=u.isSome:=by
 cases o with
 | none=>cases u with
  | none=>rfl
  | some _=>exact (show False from r).elim
 | some _=>cases u with
  | none=>exact (show False from r).elim
  | some _=>rfl
theorem KV.val {kvs:List (κ×V)}{vs:List (κ×Value)}(r:KV kvs vs)(k:κ) : RelO (valV kvs k) (valueAt vs k):=by
 unfold KV at r
 induction r with
 | nil=>exact True.intro
 | @cons p q ps qs h t ih =>
  obtain ⟨h1,h2⟩:=h
  by_cases e:p.1=k
  ·have e':q.1=k:=h1.symm.trans e
   have b:valueAt (q::qs) k=some q.2:=by simp [valueAt,List.find?_cons,e']
   rw [zcp e,b];exact h2
  ·have e' : ¬ q.1=k:=fun z=>e (h1.trans z)
   have b:valueAt (q::qs) k=valueAt qs k:=by simp [valueAt,List.find?_cons,e']
   rw [zbc e,b];exact ih
theorem KV.any {kvs:List (κ×V)}{vs:List (κ×Value)}(r:KV kvs vs)(k:κ) : (kvs.any fun kv=>decide (kv.1=k))=vs.any fun kv=>decide (kv.1=k):=by
 unfold KV at r
 induction r with
 | nil=>rfl
 | cons h t ih=>rw [List.any_cons,List.any_cons,ih,h.1]
theorem KV.repl {kvs:List (κ×V)}{vs:List (κ×Value)}(r:KV kvs vs)(k:κ){y:V}{u:Value}(ry:RelV y u) :
  KV (kvs.map fun kv=>if kv.1=k then (kv.1,y) else kv) (vs.map fun kv=>if kv.1=k then (kv.1,u) else kv):=by
 unfold KV at r ⊢
 induction r with
 | nil=>exact .nil
 | @cons p q ps qs h t ih =>
  rw [List.map_cons,List.map_cons]
  refine .cons ?_ ih
  obtain ⟨h1,h2⟩:=h
  by_cases e:p.1=k
  ·rw [if_pos e,if_pos (h1.symm.trans e)];exact ⟨h1,ry⟩
  ·rw [if_neg e,if_neg (fun z=>e (h1.trans z))];exact ⟨h1,h2⟩
theorem KV.put {kvs:List (κ×V)}{vs:List (κ×Value)}(r:KV kvs vs)(k:κ){y:V}{u:Value}(ry:RelV y u) : KV (putK kvs k y) (stored vs k u):=by
 unfold putK stored
 rw [r.any k]
 by_cases e:(vs.any fun kv=>decide (kv.1=k))=true
 ·rw [if_pos e,if_pos e];exact r.repl k ry
 ·rw [if_neg e,if_neg e];exact Paired.snoc r ⟨rfl,ry⟩
theorem KV.length {kvs:List (κ×V)}{vs:List (κ×Value)}(r:KV kvs vs) : kvs.length=vs.length:=Paired.length r
end
theorem zkz {P:Program}{w:World}{k:Key}{u:Value}(r:RelV (kV k) u) : (zaL P w).is k u=true:=by
 cases k with
 | inl i=>obtain ⟨t,e⟩:=(show ∃ t,u=Value.int i t from r);subst e;exact zg3 P w i t
 | inr x=>obtain ⟨t,e⟩:=(show ∃ t,u=Value.str x t from r);subst e;exact zg4 P w x t
theorem zf1 {P:Program}{w:World} : ∀ {ks:List Key} {us:List Value},Vals (ks.map kV) us->ItemsAre (zaL P w) ks us
 | [],_,r=>by rw [List.map_nil] at r;cases r;exact .nil
 | k::ks,_,r=>by
  rw [List.map_cons] at r
  cases r with
  | cons h t=>exact .cons (zkz h) (zf1 t)
abbrev KT (H:Hp) : List (List Key×V)->List (List Key×Addr×Value)->Prop:=Paired fun p q=>p.1=q.1/\H q.2.1=some (.tup (p.1.map kV))/\RelV p.2 q.2.2
theorem KT.val {H:Hp}{kvs:List (List Key×V)}{xs:List (List Key×Addr×Value)}(r:KT H kvs xs)(k:List Key) : RelO (valV kvs k) ((atKey xs k).map (·.2)):=by
 induction r with
 | nil=>exact True.intro
 | @cons p q ps qs h t ih =>
  obtain ⟨h1,_,h2⟩:=h
  by_cases e:p.1=k
  ·have e':q.1=k:=h1.symm.trans e
   have b:atKey (q::qs) k=some q.2:=by simp [atKey,List.find?_cons,e']
   rw [zcp e,b];exact h2
  ·have e' : ¬ q.1=k:=fun z=>e (h1.trans z)
   have b:atKey (q::qs) k=atKey qs k:=by simp [atKey,List.find?_cons,e']
   rw [zbc e,b];exact ih
theorem KT.repl {H:Hp}{kvs:List (List Key×V)}{xs:List (List Key×Addr×Value)}(r:KT H kvs xs)(k:List Key){y:V}{u:Value}(ry:RelV y u) :
  KT H (kvs.map fun kv=>if kv.1=k then (kv.1,y) else kv) (xs.map (putAt k u)):=by
 induction r with
 | nil=>exact .nil
 | @cons p q ps qs h t ih =>
  rw [List.map_cons,List.map_cons]
  refine .cons ?_ ih
  obtain ⟨h1,h2,h3⟩:=h
  unfold putAt
  by_cases e:p.1=k
  ·rw [if_pos e,if_pos (h1.symm.trans e)];exact ⟨h1,h2,ry⟩
  ·rw [if_neg e,if_neg (fun z=>e (h1.trans z))];exact ⟨h1,h2,h3⟩
theorem KT.put {H:Hp}{kvs:List (List Key×V)}{xs:List (List Key×Addr×Value)}(r:KT H kvs xs)(k:List Key){b:Addr}{y:V}{u:Value}(hb:H b=some (.tup (k.map kV)))(ry:RelV y u) :
  KT H (putK kvs k y) (storedH xs k b u):=by
 have e:(kvs.any fun kv=>decide (kv.1=k))=(atKey xs k).isSome:=by
  rw [zfo,(r.val k).isSome_eq,Option.isSome_map]
 unfold putK storedH
 rw [e]
 by_cases q:(atKey xs k).isSome=true
 ·rw [if_pos q,if_pos q];exact r.repl k ry
 ·rw [if_neg q,if_neg q];exact Paired.snoc r ⟨rfl,hb,ry⟩
theorem KT.keeps {H H':Hp}{kvs:List (List Key×V)}{xs:List (List Key×Addr×Value)}(r:KT H kvs xs)(ht:∀ b ys,H b=some (.tup ys)->H' b=some (.tup ys)) : KT H' kvs xs :=
 Paired.mapP r fun _ _ z=>⟨z.1,ht _ _ z.2.1,z.2.2⟩
section
variable {P:Program}{w:World}{H:Hp}{h:Heap}{a:Addr}
theorem zmI {u:HO}(ok:HOk P w H h)(e:Rd H a u) : ObjOk P w H h a u:=e.ok ok
theorem zgn {kvs:List (Key×V)}(ok:HOk P w H h)(e:Rd H a (.dK kvs)) : kvs.length<=sizeLine/\(a == sysModules)=false/\∃ vs,KV kvs vs/\h.DictOf (zaL P w) a vs :=
 show ObjOk P w H h a (.dK kvs) from zmI ok e
theorem zoh {kvs:List (Key×V)}(ok:HOk P w H h)(e:H a=some (.dK kvs)) : kvs.length<=sizeLine/\(a == sysModules)=false/\∃ vs,KV kvs vs/\h.DictOf (zaL P w) a vs:=zgn ok (.inl e)
theorem zgB {ks:List Key}(ok:HOk P w H h)(e:H a=some (.tup (ks.map kV))) : (tupleKind (zaL P w)).is h ks a:=by
 obtain ⟨_,its,r,o,h1,h2,n,h3⟩:=(show ObjOk P w H h a (.tup (ks.map kV)) from ok a _ e)
 exact ⟨o,its.toArray,n,h1,h2,h3,by simpa using zf1 r⟩
theorem ziJ {kvs:List (List Key×V)}(ok:HOk P w H h)(e:Rd H a (.dT kvs)) : kvs.length<=sizeLine/\(a == sysModules)=false /\
  ∃ xs,KT H kvs xs/\h.DictOfH (tupleKind (zaL P w)) a xs:=by
 obtain ⟨z,y,xs,r,o,es,ep,h1,h2,h3,h4,h5⟩:=(show ObjOk P w H h a (.dT kvs) from zmI ok e)
 refine ⟨z,y,xs,r,o,es,ep,h1,h2,h3,h4,fun x hx=>?_,h5⟩
 have all:∀ {l:List (List Key×V)} {m:List (List Key×Addr×Value)},KT H l m->∀ x∈m,(tupleKind (zaL P w)).is h x.1 x.2.1:=by
  intro l m q
  induction q with
  | nil=>intro x hx;exact nomatch hx
  | @cons p q ps qs hq t ih =>
   intro x hx
   rcases List.mem_cons.mp hx with e | hx
   ·subst e
    exact zgB ok (by rw [<- hq.1];exact hq.2.1)
   ·exact ih x hx
 exact all r x hx
theorem zm1 {kvs:List (List Key×V)}(ok:HOk P w H h)(e:H a=some (.dT kvs)) : kvs.length<=sizeLine/\(a == sysModules)=false /\
  ∃ xs,KT H kvs xs/\h.DictOfH (tupleKind (zaL P w)) a xs:=ziJ ok (.inl e)
end
def DGet (H:Hp)(a:Addr)(y:V)(r:Option V) : Prop :=
 (∃ kvs k,Rd H a (.dK kvs)/\y=kV k/\r=valV kvs k)\/∃ kvs k b,Rd H a (.dT kvs)/\y=.ref b/\H b=some (.tup (k.map kV))/\r=valV kvs k
def DPut (H:Hp)(a:Addr)(y v:V)(H':Hp) : Prop :=
 (∃ kvs k,H a=some (.dK kvs)/\y=kV k/\kvs.length<sizeLine/\H'=upd H a (.dK (putK kvs k v))) \/
 ∃ kvs k b,H a=some (.dT kvs)/\y=.ref b/\H b=some (.tup (k.map kV))/\kvs.length<sizeLine/\H'=upd H a (.dT (putK kvs k v))
theorem DPut.k {H:Hp}{a:Addr}{kvs:List (Key×V)}{k:Key}{v:V}(e:H a=some (.dK kvs))(hl:kvs.length<sizeLine) : DPut H a (kV k) v (upd H a (.dK (putK kvs k v))):=.inl ⟨kvs,k,e,rfl,hl,rfl⟩
section
variable {X:Cx}{pins:List (Addr×Obj)}{σ:St}{H:Hp}{s:Shared}{a:Addr}{y v:V}{u r:Value}{o:Option V}{A:Around}{E:Value->Shared->Prop}
theorem Inv.big (I:Inv X pins σ H s) : sysModules<s.heap.objs.size:=by
 have h:mainGlobals<s.heap.objs.size:=(I.mod.glob.keeps I.bk).lt
 exact Nat.lt_trans (by decide) h
theorem zje {Q:Value->Shared->Prop}(hu:A.units+1<cLine)(I:Inv X pins σ H s)(g:DGet H a y (some v))(ry:RelV y u)(h:∀ w' s',Inv X pins σ H s'->RelV v w'->Q w' s') :
  wpAny (model X.prog X.w) A (getItem (.ref a) u) Q E s:=by
 rcases g with ⟨kvs,k,e,ey,l⟩ | ⟨kvs,k,b,e,ey,eb,l⟩
 ·subst ey
  obtain ⟨z,hd,vs,rel,dd⟩:=zgn I.hok e
  obtain ⟨w',hw,rw'⟩:=RelO.some_of (v:=v) (o:=valueAt vs k) (by rw [l];exact rel.val k)
  exact wpAny_getItem_of (zkz ry) dd.mapOf hw (h w' _ (I.tok _) rw')
 ·subst ey
  cases (show u=Value.ref b from ry)
  obtain ⟨z,hd,xs,rel,dd⟩:=ziJ I.hok e
  obtain ⟨w',hw,rw'⟩:=RelO.some_of (v:=v) (o:=(atKey xs k).map (·.2)) (by rw [l];exact rel.val k)
  obtain ⟨p,hp,hp2⟩:=Option.map_eq_some_iff.mp hw
  refine wpAny_getItem_heap (tupleKind_room_in1 hu) (zgB I.hok eb) dd hp ?_
  rw [hp2]
  exact h w' _ (I.tok _) rw'
theorem zl6 {Q:Value->Shared->Prop}(hu:A.units+1<cLine)(I:Inv X pins σ H s)(g:DGet H a y o)(ry:RelV y u)(h:∀ s',Inv X pins σ H s'->Q (.bool (!o.isSome)) s') :
  wpAny (model X.prog X.w) A (compareOp .NotIn u (.ref a)) Q E s:=by
 rcases g with ⟨kvs,k,e,ey,l⟩ | ⟨kvs,k,b,e,ey,eb,l⟩
 ·subst ey
  obtain ⟨z,hd,vs,rel,dd⟩:=zgn I.hok e
  refine wpAny_notIn_of (zkz ry) hd dd.mapOf ?_
  rw [<- (rel.val k).isSome_eq,<- l]
  exact h _ (I.tok _)
 ·subst ey
  cases (show u=Value.ref b from ry)
  obtain ⟨z,hd,xs,rel,dd⟩:=ziJ I.hok e
  refine wpAny_notIn_heap (tupleKind_room_in1 hu) (zgB I.hok eb) hd dd ?_
  have q:=(rel.val k).isSome_eq
  rw [Option.isSome_map] at q
  rw [<- q,<- l]
  exact h _ (I.tok _)
theorem zhn {h':Heap}{t':Nat}{ob:HO}(I:Inv X pins σ H s)(mu:Mut (H a))(hs:Heap.SameBut a s.heap h')(he:∃ q,h'.get? a=some q)(new:ObjOk X.prog X.w (upd H a ob) h' a ob) :
  Inv X pins σ (upd H a ob) { s with heap:=h',toks:=t' } :=
 I.write (x:=a) (e:=a) mu (.inl rfl) (fun b q hb z=>(hs.2 b hb).trans z) he new
theorem zlB {P:Program}{w:World}{H':Hp}{h':Heap}{kvs:List (Key×V)}{vs:List (Key×Value)}(z:kvs.length<=sizeLine)(hd:(a == sysModules)=false)(rel:KV kvs vs)(dd:h'.DictOf (zaL P w) a vs) :
  ObjOk P w H' h' a (.dK kvs):=⟨z,hd,vs,rel,dd⟩
theorem ziQ {H':Hp}{Q:Unit->Shared->Prop}(hu:A.units+1<cLine)(I:Inv X pins σ H s)(g:DPut H a y v H')(ry:RelV y u)(rv:RelV v r)(h:∀ s',Inv X pins σ H' s'->Q () s') :
  wpAny (model X.prog X.w) A (setItem (.ref a) u r) Q E s:=by
 rcases g with ⟨kvs,k,e,ey,l,eH⟩ | ⟨kvs,k,b,e,ey,eb,l,eH⟩
 ·subst ey eH
  obtain ⟨z,hd,vs,rel,dd⟩:=zoh I.hok e
  have hz:vs.length<=sizeLine:=by rw [<- rel.length];exact z
  have hl:(putK kvs k v).length<=sizeLine:=by have:=zcF kvs k v;lia
  refine wpAny_setItem_pairs (hsz:=hz) (zkz ry) dd fun h' dd' hs=>h _ ?_
  have he:∃ q,h'.get? a=some q:=let ⟨q,_,_,hq,_⟩:=dd';⟨q,hq⟩
  exact zhn I (by rw [e];exact True.intro) hs he (zlB hl hd (rel.put k rv) dd')
 ·subst ey eH
  cases (show u=Value.ref b from ry)
  obtain ⟨z,hd,xs,rel,dd⟩:=zm1 I.hok e
  have hz:xs.length<=sizeLine:=by rw [<- Paired.length rel];exact z
  have hl:(putK kvs k v).length<=sizeLine:=by have:=zcF kvs k v;lia
  refine wpAny_setItem_heap (hsz:=hz) (tupleKind_room_in1 hu) (zgB I.hok eb) dd fun h' dd' hs=>h _ ?_
  obtain ⟨q,es,ep,hq,h2,h3,h4,_,h5⟩:=dd'
  refine zhn I (by rw [e];exact True.intro) hs ⟨q,hq⟩ ⟨hl,hd,_,(rel.put k eb rv).keeps fun c ys ec=>?_,q,es,ep,hq,h2,h3,h4,h5⟩
  rw [zam (zkA ec e (fun z=>nomatch z))]
  exact ec
end
section
variable {X:Cx}{pins:List (Addr×Obj)}{σ:St}{H:Hp}{s:Shared}{a:Addr}{kvs:List (Key×V)}{k:Key}{u:Value}{A:Around}{E:Value->Shared->Prop}
end
def NoSl (i:Expr) : Prop:=∀ ov iv,subscripted i false ov iv=operate [ov,iv] (getItem ov iv)
theorem zmF {prog:Program}{w:World}{A:Around}{E:Value->Shared->Prop}{s:Shared}{env:Env}{value slice:Expr}{pos:Pos}{T id:String}{Q:Value->Shared->Prop}
  (hl:typeLookup (.type T) "__getitem__" = pure (some (.builtin id))) (hs:NoSl slice)
  (h:wpAny (model prog w) A (eval value env) (fun o s₁=>wpAny (model prog w) A (eval slice env) (fun i s₂=>s₂.TypeIs o T/\wpAny (model prog w) A (getItem o i) Q E s₂) E s₁) E s) :
  wpAny (model prog w) A (eval (.Subscript value slice pos) env) Q E s:=by
 refine Subscript_ (wpAny_mono h (fun o s₁ h₁=>wpAny_mono h₁ (fun i s₂ h₂=>?_) fun _ _ x=>x) fun _ _ x=>x)
 obtain ⟨hT,h₂⟩:=h₂
 unfold subscriptTail
 refine wpAny_bind ?_
 rw [getitemInPython_of_ne hT.not_modules]
 refine wpAny_bind (wpAny_specialOf hT hl ?_)
 have fin:wpAny (model prog w) A (subscripted slice false o i) (fun r s₃=>wpAny (model prog w) A (letTemporaryGo value o r >>= fun _=>pure r) Q E s₃) E s₂:=by
  rw [hs o i]
  exact wpAny_operating (wpAny_mono h₂ (fun r s₃ h₃=>wpAny_bind (wpAny_letTemporaryGo (wpAny_pure h₃))) fun _ _ x=>x)
 first
  | exact wpAny_pure (wpAny_bind fin)
  | exact wpAny_bind (wpAny_pure (wpAny_bind fin))
  | exact wpAny_bind fin
theorem zgP {X:Cx}{pins:List (Addr×Obj)}{σ:St}{H:Hp}{s:Shared}{a:Addr}{y:V}{o:Option V}(I:Inv X pins σ H s)(g:DGet H a y o) : s.TypeIs (.ref a) "dict" := by
 rcases g with ⟨kvs,k,e,_,_⟩ | ⟨kvs,k,b,e,_,_,_⟩
 ·obtain ⟨_,_,vs,_,dd⟩:=zgn I.hok e
  exact dd.typeIs
 ·obtain ⟨_,_,xs,_,dd⟩:=ziJ I.hok e
  exact dd.typeIs
def zlP (td ty:TE) : TE:=fun σ H Q=>td σ H fun x H1=>ty σ H1 fun y H2=>∃ a v,x=.ref a/\DGet H2 a y (some v)/\Q v H2
def zjt (ty td:TE) : TE:=fun σ H Q=>ty σ H fun y H1=>td σ H1 fun x H2=>∃ a o,x=.ref a/\DGet H2 a y o/\Q (.bl (!o.isSome)) H2
def zmZ (td ty tv:TE) : TS:=fun D σ H=>tv σ H fun v H1=>td σ H1 fun x H2=>ty σ H2 fun y H3=>∃ a H4,x=.ref a/\DPut H3 a y v H4/\D.nx σ H4
section
variable {X:Cx}{o i e value:Expr}{pos pos' tpos:Pos}{td ty tv:TE}
theorem zlO (hu:X.A.units+1<cLine)(ho:PE X o td)(hi:PE X i ty)(hs:NoSl i) : PE X (.Subscript o i pos) (zlP td ty):=by
 intro pins s σ H Q I h
 refine zmF PySem.F.slot_dict_getitem.lookup hs (thn (ho pins s σ H _ I h) fun u s1 ⟨x,H1,I1,rx,q1⟩=>thn (hi pins s1 σ H1 _ I1 q1) fun iv s2 ⟨y,H2,I2,ry,a,v,ex,g,q2⟩=>?_)
 subst ex
 obtain rfl:u=Value.ref a:=rx
 exact ⟨zgP I2 g,zje hu I2 g ry fun w' s3 I3 rw'=>⟨v,H2,I3,rw',q2⟩⟩
theorem zj8 (hu:X.A.units+1<cLine)(hi:PE X i ty)(ho:PE X o td) : PC X .NotIn i o (zjt ty td):=by
 intro pins s σ H Q I h
 refine thn (hi pins s σ H _ I h) fun iv s1 ⟨y,H1,I1,ry,q1⟩=>thn (ho pins s1 σ H1 _ I1 q1) fun u s2 ⟨x,H2,I2,rx,a,ov,ex,g,q2⟩=>?_
 subst ex
 obtain rfl:u=Value.ref a:=rx
 exact zl6 hu I2 g ry fun s3 I3=>⟨.bl (!ov.isSome),H2,I3,rfl,q2⟩
theorem zmg (hu:X.A.units+1<cLine)(ho:PE X o td)(hi:PE X i ty)(hv:PE X value tv)(hs:swapsWith value (some (.Subscript o i pos')) pos.line X.env=pure false) :
  PS X (.Assign [.Subscript o i pos'] value pos) (zmZ td ty tv):=by
 intro pins s σ H D I h
 refine wpAny_Assign_Subscript (thn (hv pins s σ H _ I h) fun r s1 ⟨v,H1,I1,rv,q1⟩=>thn (ho pins s1 σ H1 _ I1 q1) fun u s2 ⟨x,H2,I2,rx,q2⟩=>thn (hi pins s2 σ H2 _ I2 q2) fun iv s3 ⟨y,H3,I3,ry,a,H4,ex,g,q3⟩=>?_) hs
 subst ex
 obtain rfl:u=Value.ref a:=rx
 exact ziQ hu I3 g ry rv fun s4 I4=>⟨σ,H4,I4,q3⟩
end
theorem zic {P:Program}{w:World}{H:Hp}(h:Heap)(hb:sysModules<h.objs.size) : ObjOk P w H (h.push { cls:=.type "dict", data:=.dict #[] }) h.objs.size (.dK []) :=
 ⟨Nat.zero_le _,beq_eq_false_iff_ne.mpr (Ne.symm (Nat.ne_of_lt hb)),[],.nil,Heap.DictOf.new h⟩
theorem zkw {P:Program}{w:World}{H:Hp}(h:Heap)(hb:sysModules<h.objs.size) : ObjOk P w H (h.push { cls:=.type "dict", data:=.dict #[] }) h.objs.size (.dT []) :=
 ⟨Nat.zero_le _,beq_eq_false_iff_ne.mpr (Ne.symm (Nat.ne_of_lt hb)),[],.nil,_,#[],0,Heap.get?_push_size _ rfl,⟨rfl,rfl,rfl⟩,rfl,rfl,List.nodup_nil⟩
def zlz:TE:=fun _ H Q=>∀ p,H p=none->Q (.ref p) (upd H p (.dK []))
def zlf:TE:=fun _ H Q=>∀ p,H p=none->Q (.ref p) (upd H p (.dT []))
section
variable {X:Cx}{pos:Pos}
theorem zkk:PE X (.Dict [] [] pos) zlz:=fun pins s σ H Q I h =>
 wpAny_Dict_empty ⟨.ref s.heap.objs.size,_,I.laid (a:=s.heap.objs.size) (o:=.dK []) (t':=s.toks) (fun _ _ q=>Heap.get?_push_of_some _ q) (Nat.le_refl _) (zic s.heap I.big),rfl,h _ (I.hok.fresh (Nat.le_refl _))⟩
theorem zkU:PE X (.Dict [] [] pos) zlf:=fun pins s σ H Q I h =>
 wpAny_Dict_empty ⟨.ref s.heap.objs.size,_,I.laid (a:=s.heap.objs.size) (o:=.dT []) (t':=s.toks) (fun _ _ q=>Heap.get?_push_of_some _ q) (Nat.le_refl _) (zkw s.heap I.big),rfl,h _ (I.hok.fresh (Nat.le_refl _))⟩
end
def zoy (kvs more:List (Key×V)) : List (Key×V):=more.foldl (fun acc kv=>putK acc kv.1 kv.2) kvs
def IsD (H:Hp)(a:Addr) : Prop:=(∃ kvs,Rd H a (.dK kvs))\/∃ kvs,Rd H a (.dT kvs)
theorem znD {X:Cx}{pins:List (Addr×Obj)}{σ:St}{H:Hp}{s:Shared}{a:Addr}(I:Inv X pins σ H s)(d:IsD H a) :
  s.TypeIs (.ref a) "dict" /\ (∀ b,Value.ref a=.ref b->∃ ob,s.heap.get? b=some ob/\ob.dict=none)/\(a == sysModules)=false:=by
 rcases d with ⟨kvs,e⟩ | ⟨kvs,e⟩
 ·obtain ⟨_,hd,vs,_,dd⟩:=zgn I.hok e
  refine ⟨dd.typeIs,fun b q=>?_,hd⟩
  cases q
  obtain ⟨ob,_,_,h1,h2,_⟩:=dd
  exact ⟨ob,h1,h2.2.1⟩
 ·obtain ⟨_,hd,xs,_,dd⟩:=ziJ I.hok e
  refine ⟨dd.typeIs,fun b q=>?_,hd⟩
  cases q
  obtain ⟨ob,_,_,h1,h2,_⟩:=dd
  exact ⟨ob,h1,h2.2.1⟩
section
variable {X:Cx}{pins:List (Addr×Obj)}{σ:St}{H:Hp}{s:Shared}{a:Addr}{y d:V}{u r:Value}{o:Option V}{A:Around}{E:Value->Shared->Prop}
end
section
variable {X:Cx}{o e f:Expr}{apos cpos:Pos}{td ty tx:TE}
end
section
variable {X:Cx}{pins:List (Addr×Obj)}{σ:St}{H:Hp}{s:Shared}{a:Addr}{kvs:List (Key×V)}{A:Around}{E:Value->Shared->Prop}
end
section
variable {X:Cx}{pins:List (Addr×Obj)}{σ:St}{H:Hp}{s:Shared}{a:Addr}{y:V}{u:Value}{A:Around}{E:Value->Shared->Prop}
end
section
variable {κ:Type}[DecidableEq κ]
end
section
variable {prog:Program}{w:World}{A:Around}{E:Value->Shared->Prop}{s:Shared}
end
end L2
local macro_rules | `(tactic| walk_at "f")=>`(tactic| refine ⟨_,rfl,rfl,_,rfl,L2.iteSF (by decide +kernel) ?_⟩)
namespace Wr
open PySem PySem.Spec PyProof.Rows
section
variable {prog:Program}{w:World}{K:Type}[DecidableEq K]{knd:HeapKind prog w K}{A:Around}{E:Value->Shared->Prop}{s:Shared}
theorem setDefault_heap {d a:Addr}{xs:List (K×Addr×Value)}{k:K}{v:Value}{Q:Value->Shared->Prop}(hu:knd.room A)(hkey:knd.is s.heap k a)(hm:s.heap.DictOfH knd d xs)
  (h1:∀ p,atKey xs k=some p->Q p.2 { s with toks:=s.toks+knd.draws k })
  (h2:atKey xs k=none->∀ h',h'.DictOfH knd d (storedH xs k a v)->Heap.SameBut d s.heap h'->Q v { s with heap:=h',toks:=s.toks+knd.draws k })
  (hsz:xs.length<=sizeLine) : wpAny (model prog w) A (dictSetDefault d (.ref a) v) Q E s:=by
 obtain ⟨o,es,ep,ho,hc,hd,he,his,hn⟩:=hm;unfold dictSetDefault
 try with_reducible refine wpAny_holding ?_;skip
 refine wpAny_bind (knd.pyHash hu hkey (wpAny_bind (wpAny_dictFind_heap (s:={ s with toks:=s.toks+knd.draws k }) hu hkey ho hd he his hn ?_ ?_)))
 ·intro hno;have hnot:k∉xs.map (·.1):=not_mem_keys_of_get hno;have hat:=atKey_none_of_get hno;have q2:=h2 hat;rw [storedH_new hat] at q2
  refine wpAny_bind (wpAny_rule (wpAny_bind (wpAny_updateDictKeys (hz:=by have e:=size_of_entries he;lia) (s:={ s with toks:=s.toks+knd.draws k }) ho hd (wpAny_pure (q2 _ ⟨_,_,ep+1,Heap.get?_update_self _ ho (Obj.isFreed_of_dict (Obj.data_mapDictKeys hd _)),hc.mapDictKeys _,Obj.data_mapDictKeys hd _,?_,?_,?_⟩ (Heap.SameBut.update ..))))))
  ·simp [he,entryOfKey]
  ·intro x hx
   rcases List.mem_append.mp hx with hx | hx
   ·exact knd.keeps (his x hx) ho hd (Heap.SameBut.update ..)
   ·rw [List.mem_singleton.mp hx];exact knd.keeps hkey ho hd (Heap.SameBut.update ..)
  ·rw [List.map_append,List.nodup_append]
   refine ⟨hn,(by simp),fun x hx y hy=>?_⟩
   have hy':y=k:=by simpa using hy
   subst hy';exact fun e=>hnot (e ▸ hx)
 ·intro j p hj
  refine wpAny_bind (wpAny_dictEntries (s:={ s with toks:=s.toks+knd.draws k }) ho hd ?_);rw [entry_at he j,hj]
  exact wpAny_bind (wpAny_rule (wpAny_pure (h1 p (atKey_of_get hn hj))))
end
end Wr
namespace Wr
open PySem SetTable PyProof.Rows
section
variable {prog:Program}{w:World}{A:Around}{E:Value->Shared->Prop}{s:Shared}
theorem zbq {v:Value}{Q:Bool->Shared->Prop}(hT:s.TypeIs v "set")(h:Q true s) : wpAny (model prog w) A (Builtin.Frozenset.isAnySet v) Q E s:=by
 unfold Builtin.Frozenset.isAnySet
 exact wpAny_bind (wpAny_isInstance hT sub_set_self (wpAny_pure h))
theorem znx {v:Value}{T:String}{Q:Bool->Shared->Prop}(hT:s.TypeIs v T)(h1:isSubtype (.type T) (.type "set")=pure false)(h2:isSubtype (.type T) (.type "frozenset")=pure false)(h:Q false s) : wpAny (model prog w) A (Builtin.Frozenset.isAnySet v) Q E s:=by
 unfold Builtin.Frozenset.isAnySet
 exact wpAny_bind (wpAny_isInstance hT h1 (wpAny_isInstance hT h2 h))
end
section
variable {prog:Program}{w:World}{A:Around}{E:Value->Shared->Prop}{s:Shared}
theorem zk1 (x:Value){Q₁:Value->Shared->Prop}(h:Q₁ (.ref s.heap.objs.size) { s with heap:=s.heap.push (zai (!byTx w)) }) :
  codeAny (model prog w) A (.call (.builtin "set.__new__") ⟨[.type "set", x],[]⟩) (wants Q₁ E) s:=by
 refine codeAny_call_builtin F.plain_set_new F.entry_set_new (wpAny_of_eq (F.newCall_set_1 x) ?_)
 unfold Builtin.«set.__new__» Builtin.Frozenset.newClass
 have hsub:=sub_set_self
 refine wpAny_bind (wpAny_bind (wpAny_of_eq (show isType (.type "set")=pure true from rfl) (zao (by decide) (wpAny_bind (wpAny_of_eq hsub (zao (by decide) (wpAny_pure ?_)))))))
 exact wpAny_bind (zdW (wpAny_pure h))
theorem zhl {x:Value}{Q:Value->Shared->Prop}(hin:wpAny (model prog w) A.in1.in1 (Builtin.Frozenset.updateFrom "set.__init__" s.heap.objs.size x) (fun _ s'=>(∃ o,s'.heap.get? s.heap.objs.size=some o/\o.cls=.type "set")/\Q (.ref s.heap.objs.size) s') E { s with heap:=s.heap.push (zai (!byTx w)) }) :
  wpAny (model prog w) A (call (.type "set") [x]) Q E s:=by
 obtain ⟨c,tl,hmro⟩:=F.called_set.mro
 have hmade:=F.called_set.made;have hsub:=F.called_set.sub
 refine wpAny_call (codeAny_of_tree ?_);show wpAny _ _ (callAny (.type "set") _) _ _ _
 refine wpAny_pure ⟨Code.quiet_builtin _ (by decide +kernel),codeAny_builtin F.entry_type_call ?_⟩;rw [Around.under_plain (weight_type_call_type "set" [x] []) rfl]
 have h1:=F.called_set.notType;have h2:=F.called_set.canCreate;have hct:=F.typeCall_set_1 x
 repeat (any_goals (first | assumption | wp_step))
 refine codeAny_mono (zk1 x (E:=E) (Q₁:=fun obj s₁=>obj=.ref s.heap.objs.size/\s₁={ s with heap:=s.heap.push (zai (!byTx w)) }) ⟨rfl,rfl⟩) fun r s₁ hr=>?_
 cases r with
 | error e=>exact hr
 | ok fl =>
  cases fl with
  | ret obj =>
   obtain ⟨rfl,rfl⟩:=hr
   have hS:(s.heap.push (zai (!byTx w))).get? s.heap.objs.size=some (zai (!byTx w)):=Heap.get?_push_size _ rfl
   have hT:Shared.TypeIs { s with heap:=s.heap.push (zai (!byTx w)) } (.ref s.heap.objs.size) "set" := ⟨_,hS,rfl⟩
   have hli:=F.called_set.init.lookup;have hbi:=F.called_set.init.bind (.ref s.heap.objs.size)
   repeat (any_goals (first | assumption | wp_step))
   refine codeAny_mono (codeAny_call_builtin (R:=wants (fun r s₂=>r=.none/\(∃ o,s₂.heap.get? s.heap.objs.size=some o/\o.cls=.type "set")/\Q (.ref s.heap.objs.size) s₂) E) F.called_set.init.plain F.entry_set_init (check_set_init_1 hT ?_)) fun r₂ s₂ hr₂=>?_
   ·have R:RSet w (s.heap.push (zai (!byTx w))) s.heap.objs.size [] (zai (!byTx w)) #[] 0 (.fresh 0 0 (!byTx w)):=⟨hS,⟨rfl,rfl,rfl⟩,rfl,.nil,List.nodup_nil,zhO _,fun z=>by show (!byTx w)=true;rw [z];rfl⟩
    unfold Builtin.«set.__init__» noKeywords setUsed
    generalize hU:Builtin.Frozenset.updateFrom=U
    wp_walk using R.state (s:={ s with heap:=s.heap.push (zai (!byTx w)) })
    subst hU
    exact wpAny_mono hin (fun _ s' hq=>wpAny_pure ⟨rfl,hq⟩) fun _ _ z=>z
   ·cases r₂ with
    | error e=>exact hr₂
    | ok fl₂ =>
     cases fl₂ with
     | ret r =>
      obtain ⟨rfl,hT2,hq⟩:=hr₂
      repeat (any_goals (first | assumption | wp_step))
     | _=>exact hr₂.elim
  | _=>exact hr.elim
end
section
variable {prog:Program}{w:World}{A:Around}{E:Value->Shared->Prop}{s:Shared}
end
end Wr
namespace Wr
open PySem PyProof.Rows
section
variable {prog:Program}{w:World}{A:Around}{E:Value->Shared->Prop}{s:Shared}
end
section
variable {prog:Program}{w:World}{A:Around}{E:Value->Shared->Prop}{s:Shared}
end
end Wr
namespace L2
open PySem PySem.Spec PyProof.Rows
section
variable {X:Cx}{pins:List (Addr×Obj)}{σ:St}{H:Hp}{s:Shared}
theorem zgM (I:Inv X pins σ H s)(hc:X.calm=true) : X.A.handled=none:=I.ok.hd hc
end
section
variable {X:Cx}{pins:List (Addr×Obj)}{σ:St}{H:Hp}{s:Shared}
def zj6:V->List V->Hp->VK->Prop:=fun x xs H Q=>∃ (d b:Addr) (z:V) (kvs:List (List Key×V)) (k:List Key),x=.ref d/\xs=[.ref b,z]/\H d=some (.dT kvs)/\H b=some (.tup (k.map kV))/\kvs.length<sizeLine /\
 (match valV kvs k with | some v=>Q v H | none=>Q z (upd H d (.dT (putK kvs k z))))
theorem zjS (hu:X.A.units+1<cLine) : MtR X "dict.setdefault" zj6:=by
 intro pins s σ H x xs v us Q I rx r ⟨d,b,z,kvs,k,e1,e2,e,eb,hl,q⟩
 subst e1 e2
 cases rx
 obtain ⟨u1,u2,rfl,r1,r2⟩:=vals2 r
 cases r1
 obtain ⟨hz,hd,ys,rel,dd⟩:=zm1 I.hok e
 have hT:s.TypeIs (.ref d) "dict" := dd.typeIs
 have hle:(putK kvs k z).length<=sizeLine:=by have:=zcF kvs k z;lia
 refine wpAny_call_entry PySem.F.slot_dict_setdefault hT PySem.F.entry_dict_setdefault ?_ (PySem.F.args_dict_setdefault_3 _ _ _)
 unfold Builtin.«dict.setdefault»;refine wpAny_bind ?_;unfold Builtin.Dict.keyAndDefault
 refine wpAny_bind (wpAny_notOrdered_dict hT ?_);show wpAny _ _ (pure (d,Value.ref b,some u2)) _ _ s
 refine wpAny_pure ?_;show wpAny _ _ (if (d == sysModules)=true then _ else (dictSetDefault d (.ref b) u2 >>= _)) _ _ s
 rw [if_neg (by rw [hd];exact Bool.false_ne_true)]
 refine wpAny_bind (Wr.setDefault_heap (tupleKind_room_in1 hu) (zgB I.hok eb) dd (fun p hp=>?_) (fun hp h' dd' hs=>?_) (by rw [<- Paired.length rel];exact hz))
 ·refine wpAny_pure ⟨_,rfl,?_⟩
  have rv:=rel.val k
  rw [hp] at rv
  cases ev:valV kvs k with
  | none=>rw [ev] at rv;exact False.elim (by cases rv)
  | some v' =>
   rw [ev] at q rv
   exact ⟨v',H,I.tok _,rv,q⟩
 ·refine wpAny_pure ⟨_,rfl,?_⟩
  have rv:=rel.val k
  rw [hp] at rv
  cases ev:valV kvs k with
  | some v'=>rw [ev] at rv;exact False.elim (by cases rv)
  | none =>
   rw [ev] at q
   obtain ⟨qo,es,ep,hq,h2,h3,h4,_,h5⟩:=dd'
   refine ⟨z,_,zhn (ob:=.dT (putK kvs k z)) I (by rw [e];exact True.intro) hs ⟨qo,hq⟩ ⟨hle,hd,_,(rel.put k eb r2).keeps fun c ys ec=>?_,qo,es,ep,hq,h2,h3,h4,h5⟩,r2,q⟩
   rw [zam (zkA ec e (fun z=>nomatch z))]
   exact ec
def vwO (v d:Addr) : HO:=.ext fun h=>W.KdlKeysView h v d
end
def intV:V->Int
 | .int i=>i
 | _=>0
def kfI (H:Hp) : V->List Int
 | .ref t=>(match H t with
  | some (.tup vs)=>vs.map intV
  | _=>[])
 | _=>[]
theorem ze3 {H:Hp}{y:V}{k:List Int}(h:RowAt H y k) : kfI H y=k:=by
 obtain ⟨t,rfl,e⟩:=h
 show (match H t with | some (.tup vs)=>vs.map intV | _=>[])=k
 rw [e]
 show (k.map V.int).map intV=k
 rw [List.map_map]
 have:intV ∘ V.int=id:=rfl
 rw [this,List.map_id]
theorem zgS (k:List Int) : (k.map Sum.inl:List Key).map kV=k.map V.int:=by rw [List.map_map];rfl
section
variable {X:Cx}{pins:List (Addr×Obj)}{σ:St}{H:Hp}{s:Shared}
def zlZ (H:Hp)(c d:Addr) : Prop:=c=d\/H c=some (vwO c d)
end
section
variable {X:Cx}{pins:List (Addr×Obj)}{σ:St}{H:Hp}{s:Shared}{h':Heap}
theorem Inv.turnedT {t':Nat}{fp:List Addr}{T:Addr}{o:HO}(I:Inv X pins σ H s)(hf:∀ b∈fp,FpOk X pins H b)(k:∀ b o,b∉fp->s.heap.get? b=some o->h'.get? b=some o)(kf:∀ b∈fp,∃ o,h'.get? b=some o)
  (hT:s.heap.objs.size<=T) (new:ObjOk X.prog X.w (upd H T o) h' T o) : Inv X pins σ (upd H T o) { s with heap:=h',toks:=t' }:=by
 have hn:H T=none:=I.hok.fresh hT
 have nit:∀ b u,H b=some u->b∉fp:=fun b u e z=>by rw [(hf b z).1] at e;cases e
 have neT:∀ b u,s.heap.get? b=some u->b≠T:=fun b u e=>Nat.ne_of_lt (Nat.lt_of_lt_of_le (Heap.lt_size e) hT)
 refine I.step (g':=s.gens) (d':=s.drawn) (ch:=fp) (fun b hb=>?_) (fun b o _ _ hc e _=>k b o hc e) (fun b o _ _ hc e _=>⟨o.slots,k b o hc e⟩) (fun b o _ e n=>by rw [zam (neT b o e)];exact n)
  (fun b o hc e=>⟨o,k b o hc e⟩) (fun b xs e=>by rw [zam (zaG e hn)];exact e) (fun b o u e=>by rw [zam (zaG e hn)];exact e) (fun b ps e=>⟨#[],by rw [zam (zaG e hn),e];simp⟩) (fun m hm=>?_) (fun b u e=>?_) I.bare
 ·obtain ⟨f0,f1,f2,f3,f4,f5⟩:=hf b hb
  exact ⟨f3,f1,f4,f5⟩
 ·obtain ⟨o,es,ep,ho,r⟩:=hm
  exact ⟨o,es,ep,k _ o (fun z=>(hf _ z).2.1 rfl) ho,r⟩
 ·by_cases hb:b=T
  ·subst hb;rw [zaa] at e;cases e;exact new
  ·rw [zam hb] at e
   refine (I.hok b u e).stay (fun c v hc q=>k c v ?_ q) (fun c q=>by rw [zam (zaG q hn)];exact q) fun c xs q=>by rw [zam (zaG q hn)];exact q
   rcases hc with z | z
   ·rw [z];exact nit b u e
   ·exact nit c _ z
theorem Inv.turnedS {t':Nat}{fp:List Addr}(I:Inv X pins σ H s)(hf:∀ b∈fp,FpOk X pins H b)(k:∀ b o,b∉fp->s.heap.get? b=some o->h'.get? b=some o) : Inv X pins σ H { s with heap:=h',toks:=t' }:=by
 have nit:∀ b u,H b=some u->b∉fp:=fun b u e z=>by rw [(hf b z).1] at e;cases e
 refine I.step (g':=s.gens) (d':=s.drawn) (ch:=fp) (fun b hb=>?_) (fun b o _ _ hc e _=>k b o hc e) (fun b o _ _ hc e _=>⟨o.slots,k b o hc e⟩) (fun b o _ e n=>n)
  (fun b o hc e=>⟨o,k b o hc e⟩) (fun b xs e=>e) (fun b o u e=>e) (fun b ps e=>⟨#[],by rw [e];simp⟩) (fun m hm=>?_) (fun b u e=>?_) I.bare
 ·obtain ⟨f0,f1,f2,f3,f4,f5⟩:=hf b hb
  exact ⟨f3,f1,f4,f5⟩
 ·obtain ⟨o,es,ep,ho,r⟩:=hm
  exact ⟨o,es,ep,k _ o (fun z=>(hf _ z).2.1 rfl) ho,r⟩
 ·refine (I.hok b u e).stay (fun c v hc q=>k c v ?_ q) (fun c q=>q) fun c xs q=>q
  rcases hc with z | z
  ·rw [z];exact nit b u e
  ·exact nit c _ z
end
section
variable {X:Cx}{elts:List Expr}{x1}{ps:Pos}
theorem zk9 {K:W.Frag}{a:Addr}{xs:List V}{g:TG}{tt:TT}{te:TE}{Q:VK}{σ:St}{H:Hp}{D:Addr}(Pv:Nat->St->Hp->Prop)(h0:Pv 0 σ H)(hl:∀ i σ H,i<=xs.length->Pv i σ H->SqT K H a xs)
  (hs:∀ i x σ H,xs[i]?=some x->Pv i σ H->g x σ H fun σ2 H2=>tt σ2 H2 fun b H3=>if b=true then te σ2 H3 fun v H4=>∃ zs,H4 D=some (.lst zs)/\zs.length<sizeLine/\Pv (i+1) σ2 (upd H4 D (.lst (zs++[v]))) else Pv (i+1) σ2 H3)
  (hd:∀ σ H,Pv xs.length σ H->Q (.ref D) H) : zcD (Itt K a) g tt te D Q σ H:=by
 refine ⟨fun i m σ H=>m=xs.length-i/\i<=xs.length/\Pv i σ H,⟨xs.length,by simp,Nat.zero_le _,h0⟩,?_⟩
 rintro i m σ H ⟨rfl,hi,p⟩
 have q:=hl i σ H hi p
 by_cases hlt:i<xs.length
 ·refine .inr ⟨⟨xs,xs[i],q,by simp [hlt]⟩,fun σ' H'=>Pv (i+1) σ' H',fun σ' H' p'=>⟨xs.length-(i+1),by lia,rfl,hlt,p'⟩,fun x H' y=>?_⟩
  obtain ⟨e,y⟩:=y
  subst e
  exact hs i x σ _ (y xs q) p
 ·have e:i=xs.length:=by lia
  subst e
  exact .inl ⟨⟨xs,q,Nat.le_refl _⟩,hd σ H p⟩
end
section
variable {X:Cx}{e o i:Expr}{te to ti:TE}{t:TA}{pos:Pos}{k:Nat}
theorem znG {apos cpos spos:Pos}(ho:JE X o to)(ha:JA X [e] t)(hbase:attributeBase o "extend" X.env (eval o X.env)=eval o X.env:=by rfl)(hline:(apos.endLine == cpos.line)=true:=by rfl) :
  JS X (.Expr (.Call (.Attribute o "extend" apos) [e] [] cpos) spos) (zgC (tBM X.K "list" zjI to t)) :=
 ⟨zgT (zkD PySem.F.plainAttrs_list PySem.F.slot_list_extend PySem.F.type_list_extend zjH ho.h ha.h hbase (by rw [ha.hd.star];rfl) hline (ha.hd.star _ _) rfl) (Pln.swap (.call ..) _ _ _)⟩
end
section
variable {X:Cx}{pins:List (Addr×Obj)}{σ:St}{H:Hp}{s:Shared}
end
section
variable {X:Cx}{e o:Expr}{te to:TE}{t:TA}{p pos apos cpos:Pos}{k:Nat}{target:Expr}
theorem zku {e1 e2:Expr}(hr:Room k X.A)(ho:JE X o to)(ha:JA X [e1,e2] t)(hbase:attributeBase o "setdefault" X.env (eval o X.env)=eval o X.env:=by rfl)(hline:(apos.endLine == cpos.line)=true:=by rfl) :
  JE X (.Call (.Attribute o "setdefault" apos) [e1,e2] [] cpos) (tBM X.K "dict" zj6 to t) :=
 ⟨zkD PySem.F.plainAttrs_dict PySem.F.slot_dict_setdefault PySem.F.type_dict_setdefault (zjS (by have:=hr.units;lia)) ho.h ha.h hbase (by rw [ha.hd.star,(Nsts.star ha.rs _)];rfl) hline (ha.hd.star _ _) (ha.rs.no _ _)⟩
theorem zhz (hr:Room k X.A)(ho:JE X o to)(hi:JE X e te)(hs:NoSl e:=by intro _ _;rfl) : JE X (.Subscript o e pos) (zlP to te):=⟨zlO (by have:=hr.units;lia) ho.h hi.h hs⟩
theorem zmD:JE X (.Dict [] [] pos) zlf:=⟨zkU⟩
end
end L2
namespace Wr
end Wr
namespace Wr
open PySem SetTable PyProof.Rows
section
variable {prog:Program}{w:World}{A:Around}{E:Value->Shared->Prop}
end
section
variable {prog:Program}{w:World}{A:Around}{E:Value->Shared->Prop}{s:Shared}
end
end Wr
namespace L2
open PySem PySem.Spec PyProof.Rows
section
variable {X:Cx}
end
def dRow (r:List Int) : PyData:=.tuple (r.map PyData.int)
theorem zjd {K:W.Frag}{H:Hp} : ∀ ns:List Int,DenAll K H (ns.map V.int) (ns.map PyData.int)
 | []=>.nil
 | n::ns=>.cons (.int n) (zjd ns)
theorem RowAt.den {K:W.Frag}{H:Hp}{v:V}{r:List Int}(h:RowAt H v r) : Den K H v (dRow r):=by
 obtain ⟨t,rfl,e⟩:=h
 exact .tup (SqT.of e) (zjd r)
theorem zdh {K:W.Frag}{H:Hp} : ∀ {vs:List V} {rs:List (List Int)},Paired (RowAt H) vs rs->DenAll K H vs (rs.map dRow)
 | _,_,.nil=>.nil
 | _,_,.cons r t=>.cons r.den (zdh t)
theorem zep:∀ (l m:List Int),PyData.eqvAll (l.map PyData.int) (m.map PyData.int)=decide (l=m)
 | [],[]=>by simp [PyData.eqvAll]
 | [],_::_=>by simp [PyData.eqvAll]
 | _::_,[]=>by simp [PyData.eqvAll]
 | x::l,y::m=>by
  simp only [List.map_cons,PyData.eqvAll,zep l m,PyData.eqv]
  by_cases h1:x=y<;>by_cases h3:l=m<;>simp [h1,h3]
theorem zh9:∀ (l m:List (List Int)),PyData.eqvAll (l.map dRow) (m.map dRow)=decide (l=m)
 | [],[]=>by simp [PyData.eqvAll]
 | [],_::_=>by simp [PyData.eqvAll]
 | _::_,[]=>by simp [PyData.eqvAll]
 | x::l,y::m=>by
  simp only [List.map_cons,PyData.eqvAll,zh9 l m,dRow,PyData.eqv,zep]
  by_cases h1:x=y<;>by_cases h3:l=m<;>simp [h1,h3]
theorem zgf (l m:List (List Int)) : PyData.eqv (.list (l.map dRow)) (.list (m.map dRow))=decide (l=m):=by rw [PyData.eqv];exact zh9 l m
theorem zcv:∀ ns:List Int,PyData.canLayAll0 (ns.map PyData.int)=true/\PyData.depthAll (ns.map PyData.int)=0
 | []=>by simp [PyData.canLayAll0,PyData.depthAll]
 | n::ns=>by
  have ih:=zcv ns
  simp [PyData.canLayAll0,PyData.depthAll,PyData.canLay0,PyData.depth,ih.1,ih.2]
theorem zbG:∀ rs:List (List Int),PyData.canLayAll0 (rs.map dRow)=true/\PyData.depthAll (rs.map dRow)<=1
 | []=>by simp [PyData.canLayAll0,PyData.depthAll]
 | r::rs=>by
  have ih:=zbG rs
  have e:=zcv r
  simp only [List.map_cons,PyData.canLayAll0,PyData.depthAll,dRow,PyData.canLay0,PyData.depth,e.1,e.2,ih.1]
  exact ⟨by simp,by have:=ih.2;lia⟩
theorem zbK (rs:List (List Int)) : SeqAt.shaped (.list (rs.map dRow))=true:=by
 have e:=zbG rs
 unfold SeqAt.shaped
 simp only [PyData.canLay0,PyData.depth,e.1,Bool.true_and]
 exact decide_eq_true (by have:=e.2;lia)
end L2
namespace Wr
def par (s:Bool)(bs:List Int)(m:Int) : Bool:=bs.foldl (fun x b=>x != decide (b<=m)) s
def parP (s:Bool)(p:Int->Bool)(B:List Int)(m:Int) : Bool:=B.foldl (fun x b=>x != (p b&&decide (b<=m))) s
def endP (s:Bool)(p:Int->Bool)(B:List Int) : Bool:=B.foldl (fun x b=>x != p b) s
section
variable {fw:Bool->Bool->Bool}{s1 s2:Bool}{p1 p2:Int->Bool}{done:List Int}{start:Option Int}{acc:List Stt}{b:Int}
end
end Wr
namespace Prf
open PySem L2 Wr
theorem take_snoc {α:Type}{l:List α}{i:Nat}{x:α}(h:l[i]?=some x) : l.take (i+1)=l.take i++[x]:=by rw [List.take_add_one,h];rfl
theorem zjh {α β:Type}{f:α->β}{l:List α}{i:Nat}{x:β}(h:(l.map f)[i]?=some x) : ∃ a,l[i]?=some a/\x=f a:=by
 rw [List.getElem?_map] at h
 cases e:l[i]? with
 | none=>rw [e] at h;cases h
 | some a=>rw [e] at h;exact ⟨a,rfl,(Option.some.inj h).symm⟩
end Prf
namespace L2
open PySem PySem.Spec PyProof.Rows
section
variable {X:Cx}{elts:List Expr}{x1}{ps:Pos}
end
end L2
namespace L2
open PySem PySem.Spec PyProof.Rows PySem.W
section
variable {X:Cx}{pos p2:Pos}{a b:Expr}{ta tb:TE}
end
end L2
namespace L2
open PySem Wr
end L2
namespace L2
open PySem PySem.Spec PyProof.Rows
section
variable {X:Cx}{e:Expr}{es:List Expr}{te:TE}{t:TA}
theorem zhT {x:Str}{dp pos pos':Pos}(i:Nat)(hN:X.N.Nodup)(he:JE X (.Dict [] [] dp) te)(hi:X.N[i]?=some x:=by rfl)(hx:Loc X.env.scope x:=by first | exact Or.inl rfl | exact Or.inr rfl)
  (hf:X.fn x=true\/X.env.scope.names.lookup x=some .local:=by first | exact .inl rfl | exact .inr rfl) : JS X (.Assign [.Name x pos'] (.Dict [] [] dp) pos) (tAsg te (zas i)):=⟨zjw hN hi hx he.h rfl hf⟩
end
end L2
namespace Prf
open PySem L2 Wr
abbrev Kn:=List (List Int×Addr×List Bool)
def zoD (kn:Kn) : List (List Key×V):=kn.map fun q=>(q.1.map Sum.inl,.ref q.2.1)
theorem zjc {a b:List Int}(h:(a.map Sum.inl:List Key)=b.map Sum.inl) : a=b:=by
 induction a generalizing b with
 | nil=>cases b with | nil=>rfl | cons _ _=>cases h
 | cons x a ih => cases b with
  | nil=>cases h
  | cons y b =>
   simp only [List.map_cons,List.cons.injEq,Sum.inl.injEq] at h
   rw [h.1,ih h.2]
theorem zeV:∀ {l m:List (List Int)},l.Perm m->(l.Pairwise fun a b=>lexI b a=false)->(m.Pairwise fun a b=>lexI b a=false)->l=m
 | [],m,p,_,_=>p.symm.eq_nil.symm
 | x::l,[],p,_,_=>by have:=p.eq_nil;cases this
 | x :: l, y :: m, p, h1, h2 => by
  obtain ⟨a1,a2⟩:=List.pairwise_cons.mp h1
  obtain ⟨b1,b2⟩:=List.pairwise_cons.mp h2
  have e:x=y:=by
   rcases List.mem_cons.mp (p.mem_iff.mp List.mem_cons_self) with z | z
   ·exact z
   ·rcases List.mem_cons.mp (p.symm.mem_iff.mp (List.mem_cons_self:y∈y::m)) with w | w
    ·exact w.symm
    ·exact zby (b1 x z) (a1 y w)
  subst e
  rw [zeV (List.Perm.cons_inv p) a2 b2]
end Prf
namespace Wr
end Wr
namespace L2
open PySem PySem.Spec PyProof.Rows Wr
abbrev Fact:=List Int×Stt
theorem zc6 {H:Hp}{l:Addr}{o:HO}(hl:∀ xs,H l≠some (.tup xs))(b:Addr)(xs:List V)(h:H b=some (.tup xs)) : upd H l o b=some (.tup xs):=by
 rw [zam (fun z=>hl _ (by rw [<- z];exact h))];exact h
section
variable {X:Cx}
end
end L2
namespace Prf
open PySem L2 Wr
theorem zaB {α:Type}[DecidableEq α] : ∀ {l m:List α},l.Nodup->(∀ x∈l,x∈m)->l.length<=m.length
 | [],_,_,_=>Nat.zero_le _
 | x::l,m,nd,h=>by
  have hx:=h x List.mem_cons_self
  obtain ⟨n1,n2⟩:=List.nodup_cons.mp nd
  have:=zaB (l:=l) (m:=m.erase x) n2 fun y hy=>(List.mem_erase_of_ne (fun (e:y=x)=>n1 (by rw [<- e];exact hy))).mpr (h y (List.mem_cons_of_mem _ hy))
  rw [List.length_erase_of_mem hx] at this
  have:=List.length_pos_of_mem hx
  simp only [List.length_cons]
  lia
abbrev Td:=List (List Int×Addr×List Stt)
def zkH (td:Td) : List (List Key×V):=td.map fun q=>(q.1.map Sum.inl,.ref q.2.1)
theorem zlD:∀ {td:Td} {q:List Int×Addr×List Stt},(td.map (·.1)).Nodup->q∈td->valV (zkH td) (q.1.map Sum.inl)=some (.ref q.2.1)
 | [],_,_,h=>nomatch h
 | p::td,q,nd,h=>by
  rw [List.map_cons,List.nodup_cons] at nd
  rcases List.mem_cons.mp h with rfl | h
  ·exact zcp rfl
  ·exact (zbc fun z=>nd.1 (by rw [show p.1=q.1 from zjc z];exact List.mem_map_of_mem h)).trans (zlD nd.2 h)
theorem zki:∀ {td:Td} {r:List Int},r∉td.map (·.1)->valV (zkH td) (r.map Sum.inl)=none
 | [],_,_=>rfl
 | p::td,r,h=>(zbc fun z=>h (by rw [List.map_cons,show p.1=r from zjc z];exact List.mem_cons_self)).trans (zki fun z=>h (List.mem_cons_of_mem _ z))
end Prf
namespace L2
open PySem
theorem zmb {r:Int}{n:Nat}(h:0<n) : ∃ k:Nat,r % (n:Int)=(k:Int)/\k<n:=by
 have h1:=Int.emod_nonneg r (show (n:Int)≠0 by lia)
 have h2:=Int.emod_lt_of_pos r (show (0:Int)<n by lia)
 exact ⟨(r % (n:Int)).toNat,by lia,by lia⟩
end L2
namespace Prf
open PySem L2 Wr
theorem zcI {α β:Type}{R S:α->β->Prop} : ∀ {xs:List α} {ys:List β},Paired R xs ys->(∀ x y,y∈ys->R x y->S x y)->Paired S xs ys
 | _,_,.nil,_=>.nil
 | _,_,.cons r t,f=>.cons (f _ _ List.mem_cons_self r) (zcI t fun x y h q=>f x y (List.mem_cons_of_mem _ h) q)
end Prf
namespace L2
open PySem PySem.Spec PyProof.Rows
section
variable {X:Cx}{a b:Expr}{ta tb:TE}{pos:Pos}
theorem t_in (ha:JE X a ta)(hb:JE X b tb)(hm:∀ r,behindInMarks .In b=r->r=false:=by intro _ h;exact h ▸ rfl) : JT X (.Compare a [.In] [b] pos) (zb3 (tOp (rIn X.K false) ta tb)):=⟨zfB zji ha.h hb.h (hm _ rfl)⟩
end
end L2
namespace Prf
open PySem L2 Wr
abbrev Ent:=List Int×List Stt
theorem zct {α β:Type}{R:α->β->Prop} : ∀ {xs xs':List α} {ys ys':List β},Paired R xs ys->Paired R xs' ys'->Paired R (xs++xs') (ys++ys')
 | _,_,_,_,.nil,h=>h
 | _,_,_,_,.cons r t,h=>.cons r (zct t h)
end Prf
namespace L2
end L2
namespace Prf
open PySem L2 Wr
end Prf
namespace L2
open PySem PySem.Spec PyProof.Rows
structure Site where
 c:Addr
 P:Addr
section
variable {X:Cx}{S:Site}{params:Arguments}{body:Expr}{scope:Scope}{pos:Pos}
end
section
variable {X:Cx}{k j i:Nat}{x:Str}{ps:List Str}{sp:Sp}{p pos:Pos}{e:Expr}{es:List Expr}{t:TA}{f:Addr}{fd:FuncData}
end
def zoC:HO->Bool
 | .tbl _=>false
 | _=>true
structure LSite where
 S:Site
 q:Str
 pos:Pos
section
variable {Ls:List LSite}{H H1 H2:Hp}{a:Addr}{o:HO}
end
section
variable {P:Program}{w:World}{K:W.Frag}{mg:Str->Option Value}{base:Heap}
end
section
variable {X:Cx}{S:Site}{params:Arguments}{body:Expr}{scope:Scope}{pos:Pos}
end
end L2
namespace L2
open PySem Wr
variable {Ls:List LSite}{H H':Hp}
end L2
namespace Prf
open PySem L2 Wr
variable {Ls:List LSite}{H H':Hp}
end Prf
namespace L2
open PySem PySem.Spec PyProof.Rows
section
variable {X:Cx}
end
end L2
namespace Prf
open PySem L2 Wr
end Prf
namespace L2
open PySem PySem.Spec PyProof.Rows
section
variable {X:Cx}
def ziq (K:W.Frag) : R2:=fun x y H Q=>∃ a b xs ys,x=.ref a/\y=.ref b/\SqT K H a xs/\SqT K H b ys/\xs.length+ys.length<=sizeLine /\
 (xs=[]->Q (.ref b) H)/\(xs≠[]->ys=[]->Q (.ref a) H)/\(xs≠[]->ys≠[]->∀ p,H p=none->Q (.ref p) (upd H p (.tup (xs++ys))))
theorem zmx:OpR X (binaryOp .Add) (ziq X.K):=by
 intro pins s σ H x y v u Q I rx ry h
 obtain ⟨a,b,xs,ys,rfl,rfl,ha,hb,hz,q0,q1,q2⟩:=h
 by_cases hx:xs=[]
 ·cases rx
  cases ry
  obtain ⟨its,r1,p1,_⟩:=I.tuple ha
  obtain ⟨its2,r2,p2,_⟩:=I.tuple hb
  obtain ⟨⟨cls,dd,data,sl⟩,ho,hc,n,hd⟩:=id p1
  obtain ⟨⟨cls2,dd2,data2,sl2⟩,ho2,hc2,n2,hd2⟩:=id p2
  simp only at hc hd hc2 hd2
  subst hc hd hc2 hd2
  have e:its=[]:=r1.nil_iff.mpr hx
  exact concat_meets ⟨_,ho,rfl⟩ ⟨_,ho2,rfl⟩ noFill_tuple_add seq_tuple_add PySem.F.slot_tuple_add PySem.F.entry_tuple_add (PySem.F.args_tuple_add_2 _ _)
   (tuple_addW0 a b its.toArray its2.toArray n n2 dd dd2 sl sl2 (by simp [e])) ⟨ho,ho2,⟨.ref b,H,I,rfl,q0 hx⟩⟩
 ·exact zmc pins s σ H _ _ v u Q I rx ry ⟨a,b,xs,ys,rfl,rfl,ha,hb,hx,hz,q1 hx,q2 hx⟩
theorem zhF:JOp X (binaryOp .Add) (ziq X.K):=⟨zmx⟩
variable {pos p2:Pos}{a b:Expr}{ta tb:TE}
end
end L2
namespace Prf
open PySem L2 Wr
end Prf
namespace L2
open PySem PySem.Spec PyProof.Rows
section
variable {X:Cx}
def rSlS:V->Option Int->Option Int->Hp->VK->Prop:=fun x lo hi H Q=>∃ z,x=.str z/\z.length<=sizeLine/\Q (.str (Txt.slice z lo hi)) H
theorem zlE:SlR X rSlS:=by
 intro pins s σ H x v vl vu lo hi sl Q I rx hs pl pu ⟨z,e,hz,q⟩
 subst e
 obtain ⟨t,rfl⟩:=rx
 refine ⟨"str", _,PySem.F.slot_str_getitem.lookup,typeIs_str _ _ _,?_⟩
 obtain ⟨o,ho,hc,hd⟩:=hs
 have fin:(Txt.slice z lo hi).length<=sizeLine/\∀ t' k,EP X pins σ Q (.str (Txt.slice z lo hi) t') { s with toks:=k }:=⟨Nat.le_trans (Txt.slice_le z _ _) hz,fun t' k=>⟨.str _,H,I.tok k,⟨_,rfl⟩,q⟩⟩
 cases pl with
 | none =>
  cases pu with
  | none=>exact wpAny_getItem_str_slice (l:=none) (u:=none) (st:=none) ⟨o,ho,hc,hd⟩ rfl (post_val_or_str fin)
  | int j u=>exact wpAny_getItem_str_slice (l:=none) (u:=some (j,u)) (st:=none) ⟨o,ho,hc,hd⟩ rfl (post_val_or_str fin)
 | int i t1 =>
  cases pu with
  | none=>exact wpAny_getItem_str_slice (l:=some (i,t1)) (u:=none) (st:=none) ⟨o,ho,hc,hd⟩ rfl (post_val_or_str fin)
  | int j u=>exact wpAny_getItem_str_slice (l:=some (i,t1)) (u:=some (j,u)) (st:=none) ⟨o,ho,hc,hd⟩ rfl (post_val_or_str fin)
variable {pos p2 apos cpos:Pos}{a b o:Expr}{ta tb to:TE}{t:TA}
theorem zmO:JIx X rIxS:=⟨zm0⟩
theorem zlG (ha:JE X a ta)(hb:JE X b tb) : JE X (.Subscript a (.Slice none (some b) none p2) pos) (tSl rSlS ta zdr (zf7 tb)):=⟨zdU zlE ha.h zgQ (zee hb.h)⟩
theorem zmy (ha:JE X a ta)(hb:JE X b tb) : JE X (.Subscript a (.Slice (some b) none none p2) pos) (tSl rSlS ta (zf7 tb) zdr):=⟨zdU zlE ha.h (zee hb.h) zgQ⟩
theorem zll:JOp X (binaryOp .Add) (fun x y H Q=>∃ i j,x=.str i/\y=.str j/\i.length+j.length<=sizeLine/\Q (.str (i++j)) H):=⟨ziA⟩
theorem znc:JC X (.builtin "len") (fun xs H Q=>∃ z,xs=[.str z]/\z.length<=sizeLine/\Q (.int z.length) H):=⟨zfT⟩
def rJoin (K:W.Frag) : V->List V->Hp->VK->Prop:=fun x xs H Q=>∃ (z:Str) (p:Addr) (ys:List Str),x=.str z/\xs=[.ref p]/\SqL K H p (ys.map V.str)/\(ys.map (·.length)).sum+ys.length*z.length<=16777216/\Q (.str (Txt.join z ys)) H
theorem zf2:∀ {ys:List Str} {us:List Value},Vals (ys.map V.str) us->StrsAre us ys
 | [],_,.nil=>.nil
 | y::ys,_,.cons r t=>by obtain ⟨k,rfl⟩:=r;exact .cons y k (zf2 t)
theorem zlV:MtR X "str.join" (rJoin X.K):=by
 intro pins s σ H x xs v us Q I rx r ⟨z,p,ys,e1,e2,hp,hw,q⟩
 subst e1 e2
 obtain ⟨t,rfl⟩:=rx
 obtain ⟨u,rfl,ru⟩:=vals1 r
 cases ru
 obtain ⟨its,rv,pl,_⟩:=I.list hp
 exact join_list pl.isList (by simpa using zf2 rv) hw fun t' k=>⟨.str _,H,I.tok k,⟨_,rfl⟩,q⟩
theorem zna {e1:Expr}(ho:JE X o to)(ha:JA X [e1] t)(hbase:attributeBase o "join" X.env (eval o X.env)=eval o X.env:=by rfl)(hline:(apos.endLine == cpos.line)=true:=by rfl) :
  JE X (.Call (.Attribute o "join" apos) [e1] [] cpos) (tBM X.K "str" (rJoin X.K) to t) :=
 ⟨zkD PySem.F.plainAttrs_str PySem.F.slot_str_join PySem.F.type_str_join zlV ho.h ha.h hbase (by rw [ha.hd.star,(Nsts.star ha.rs _)];rfl) hline (ha.hd.star _ _) (ha.rs.no _ _)⟩
end
end L2
namespace Prf
open PySem L2 Wr PySem.Builtin PySem.Builtin.Str
theorem zkE {n j:Nat}(h:j<=n) : strSliceIndices none (some (j:Int)) 1 n=List.range j:=by
 unfold strSliceIndices sliceRange
 simp only [show (1:Int)>0 by decide,if_true]
 rw [if_neg (show ¬ ((j:Int)<0) by lia)]
 have e:max 0 (min (j:Int) (n:Int))=(j:Int):=by lia
 rw [e]
 have c:(if (0:Int)<(j:Int) then ((j:Int)-0+1-1) / 1 else 0).toNat=j:=by
  split
  ·rw [Int.ediv_one];lia
  ·lia
 rw [c]
 conv=>rhs;rw [<- List.map_id (List.range j)]
 exact List.map_congr_left fun k _=>by show (0+1*(k:Int)).toNat=k;lia
theorem zkq {n i:Nat}(h:i<=n) : strSliceIndices (some (i:Int)) none 1 n=(List.range (n-i)).map (· + i):=by
 unfold strSliceIndices sliceRange
 simp only [show (1:Int)>0 by decide,if_true]
 rw [if_neg (show ¬ ((i:Int)<0) by lia)]
 have e:max 0 (min (i:Int) (n:Int))=(i:Int):=by lia
 rw [e]
 have c:(if (i:Int)<(n:Int) then ((n:Int)-(i:Int)+1-1) / 1 else 0).toNat=n-i:=by
  split
  ·rw [Int.ediv_one];lia
  ·lia
 rw [c]
 exact List.map_congr_left fun k _=>by show ((i:Int)+1*(k:Int)).toNat=k+i;lia
theorem zei {α:Type}{l:List α} : ∀ {j:Nat},j<=l.length->(List.range j).filterMap (fun k=>l[k]?)=l.take j
 | 0,_=>rfl
 | j+1,h=>by
  have hl:j<l.length:=by lia
  rw [List.range_succ,List.filterMap_append,zei (by lia),List.take_succ_eq_append_getElem hl]
  simp [hl]
theorem zke {α:Type}{l:List α}{i:Nat}(h:i<=l.length) : ((List.range (l.length-i)).map (· + i)).filterMap (fun k=>l[k]?)=l.drop i:=by
 rw [List.filterMap_map]
 have e:((fun k=>l[k]?) ∘ fun x=>x+i)=fun k=>(l.drop i)[k]?:=by
  funext k
  show l[k+i]?=(l.drop i)[k]?
  rw [List.getElem?_drop,Nat.add_comm]
 rw [e,zei (by rw [List.length_drop];exact Nat.le_refl _),List.take_of_length_le (by rw [List.length_drop];exact Nat.le_refl _)]
theorem str_len (z:PySem.Str) : z.length=z.cps.toList.length:=by show z.cps.size=_;simp
theorem ziH {z:PySem.Str}{j:Nat}(h:j<=z.length) : (Txt.slice z none (some (j:Int))).cps.toList=z.cps.toList.take j:=by
 unfold Txt.slice
 rw [zkE h]
 split
 ·rename_i c
  have:j=z.length:=by simpa using c
  rw [this,str_len,List.take_length]
 ·show ((List.range j).filterMap (fun k=>z.cps[k]?)).toArray.toList=_
  rw [<- zei (by rw [<- str_len];exact h)]
  simp
theorem ziz {z:PySem.Str}{i:Nat}(h:i<=z.length) : (Txt.slice z (some (i:Int)) none).cps.toList=z.cps.toList.drop i:=by
 unfold Txt.slice
 rw [zkq h]
 split
 ·rename_i c
  have:z.length-i=z.length:=by simpa using c
  rcases Nat.eq_zero_or_pos z.length with hz | hz
  ·have:z.cps.toList=[]:=List.length_eq_zero_iff.mp (by rw [<- str_len];exact hz)
   rw [this];simp
  ·have:i=0:=by lia
   rw [this,List.drop_zero]
 ·show (((List.range (z.length-i)).map (· + i)).filterMap (fun k=>z.cps[k]?)).toArray.toList=_
  rw [<- zke (by rw [<- str_len];exact h),str_len]
  simp
theorem zfd (a b:PySem.Str) : (a++b).cps.toList=a.cps.toList++b.cps.toList:=by
 show (a.cps++b.cps).toList=_
 simp
theorem join_none (ys:List PySem.Str) : (Txt.join "" ys).cps.toList=ys.flatMap fun y=>y.cps.toList:=by
 unfold Txt.join glued
 have e0:(Str.ofString "").cps = #[]:=by decide +kernel
 have go:∀ (l:List PySem.Str) (acc:Array Nat),(l.foldl (fun acc p=>acc++(Str.ofString "").cps++p.cps) acc).toList=acc.toList++l.flatMap fun y=>y.cps.toList:=by
  intro l
  induction l with
  | nil=>intro acc;simp
  | cons y l ih=>intro acc;rw [List.foldl_cons,ih,e0];simp
 rw [go]
 cases ys with
 | nil=>simp;decide +kernel
 | cons y ys=>simp
theorem zl9 {w:List Nat}{a b:Nat}{i:Nat}(h:i<w.length)(ne:a≠b) : w.take i++[a]++w.drop (i+1)≠w.take i++[b]++w.drop (i+1):=fun e=>by
 have e1:=congrArg (·[i]?) e
 simp only [List.append_assoc,List.getElem?_append_right (show (w.take i).length<=i by rw [List.length_take];lia)] at e1
 have l:i-(w.take i).length=0:=by rw [List.length_take];lia
 rw [l] at e1
 simp at e1
 exact ne e1
end Prf
namespace L2
open PySem PySem.Spec PyProof.Rows PySem.NumText
end L2
namespace L2
open PySem PySem.Spec PyProof.Rows PySem.NumText Prf
end L2
namespace L2
open PySem PySem.Spec PyProof.Rows PySem.NumText Prf StrLaws Builtin.Str
end L2
namespace L2
open PySem PySem.Spec PyProof.Rows PySem.NumText Prf Builtin.Str
section
variable {X:Cx}{o:Expr}{to:TE}{t:TA}{apos cpos:Pos}
end
section
variable {X:Cx}{tg:Expr}
def znF (K:W.Frag) : List V->Hp->VK->Prop:=fun vs H Q=>∃ l bs,vs=[.ref l]/\SqL K H l (List.map V.bl bs)/\Q (.bl (bs.all id)) H
theorem all_range (bs:List Bool) : (List.range bs.length).all (fun i=>bs.getD i true)=bs.all id:=by
 have e:bs=(List.range bs.length).map fun i=>bs.getD i true:=by
  apply List.ext_getElem (by simp)
  intro i h1 h2
  simp [h1]
 conv=>rhs;rw [e]
 rw [List.all_map]
 rfl
theorem zfp (hc:X.calm=true) : zb4 X (.builtin "all") (znF X.K):=by
 intro pins s σ H vs us Q I r ⟨l,bs,e,hl,q⟩
 subst e
 obtain ⟨u,rfl,ru⟩:=Vals.one r
 cases ru
 obtain ⟨its,rv,pl,_⟩:=I.list hl
 have ei:=zfa rv
 subst ei
 have hd:X.A.in1.handled=none:=I.ok.hd hc
 have hlt:l<s.heap.objs.size:=by obtain ⟨o,n,e,_⟩:=pl;exact Heap.lt_size e
 refine call_all_walk (wpAny_pyIter_list pl.isList ⟨_,_,_,_,_,_,(fun i=>bs.getD i true),rfl,Walks.list hd _ l (Nat.ne_of_lt hlt) _,⟨⟨_,Heap.get?_push_size _ rfl,rfl,rfl⟩,pl.isList.push _⟩,?_,fun h' tk hk=>?_⟩)
 ·intro i v s' Q' E' hv hq
  have hv':(List.map Value.bool bs)[i]?=some v:=by simpa using hv
  rw [List.getElem?_map] at hv'
  cases e:bs[i]? with
  | none=>rw [e] at hv';cases hv'
  | some b =>
   rw [e] at hv'
   cases hv'
   have eb:bs.getD i true=b:=by rw [List.getD_eq_getElem?_getD,e];rfl
   dsimp only at hq
   rw [eb] at hq
   exact wpAny_truthy_bool hq
 ·have ek:(List.map Value.bool bs).toArray.size=bs.length:=by simp
  rw [ek,all_range]
  refine ⟨.bl _,H,I.kept (fun b o q'=>hk b o (fun hm=>?_) (Heap.get?_push_of_some _ q')),rfl,q⟩
  have:b=s.heap.objs.size:=by simpa using hm
  exact absurd (this ▸ Heap.lt_size q') (Nat.lt_irrefl _)
theorem zop (hc:X.calm=true:=by rfl) : JC X (.builtin "all") (znF X.K):=⟨zfp hc⟩
end
section
variable {X:Cx}{o:Expr}{to:TE}{t:TA}{apos cpos:Pos}
end
section
variable {X:Cx}{k:Nat}{pos:Pos}{e a b:Expr}{te ta tb:TE}
theorem znU:JC X (.type "int") (fun xs H Q=>∃ b:Bool,xs=[.bl b]/\Q (.int (if b then 1 else 0)) H):=by
 refine ⟨fun pins s σ H xs us Q I r h=>?_⟩
 obtain ⟨b,rfl,q⟩:=h
 obtain ⟨u,rfl,rfl⟩:=vals1 r
 exact call_int_bool ⟨.int _,H,I.tok _,⟨_,rfl⟩,q⟩
variable {p2:Pos}
end
end L2
set_option maxHeartbeats 8000000
namespace Prf
open PySem L2 Wr PySem.NumText
end Prf
namespace L2
open PySem PySem.Spec PyProof.Rows Wr
section
variable {X:Cx}
end
section
variable {prog:Program}{w:World}{A:Around}{E:Value->Shared->Prop}{s:Shared}
theorem ze5 {K:Type}[DecidableEq K] : ∀ {kvs:List (K×Value)} {i:Nat} {p:K×Value},(kvs.map (·.1)).Nodup->kvs[i]?=some p->(kvs.findIdx? fun kv=>decide (kv.1=p.1))=some i
 | [],_,_,_,h=>by simp at h
 | x::r,0,p,hn,h=>by
  cases h
  simp [List.findIdx?_cons]
 | x::r,i+1,p,hn,h=>by
  rw [List.map_cons,List.nodup_cons] at hn
  have hm:r[i]?=some p:=by simpa using h
  have ne:x.1≠p.1:=fun e=>hn.1 (by rw [e];exact List.mem_map.mpr ⟨p,List.mem_of_getElem? hm,rfl⟩)
  rw [List.findIdx?_cons,decide_eq_false ne,ze5 hn.2 hm]
  rfl
end
section
variable {X:Cx}{k:Nat}
end
end L2
namespace Wr
open PySem SetTable
def zcC (mask:Nat)(p:Probe) : Probe:=if p.more>0 then { p with j:=p.j+1,more:=p.more-1 } else { p with j:=(leap mask p.i p.perturb).1,more:=runEnd mask (leap mask p.i p.perturb).1-(leap mask p.i p.perturb).1,i:=(leap mask p.i p.perturb).1,perturb:=(leap mask p.i p.perturb).2 }
def startM (mask:Nat)(h:Int) : Probe:={ j:=bits h % (mask+1),more:=runEnd mask (bits h % (mask+1))-bits h % (mask+1),i:=bits h % (mask+1),perturb:=bits h,dummy:=none }
def pth (mask:Nat)(h:Int) : Nat->Probe
 | 0=>startM mask h
 | n+1=>zcC mask (pth mask h n)
theorem zcu (t:SetTable)(p:Probe) : t.advance p=zcC t.mask p:=by
 unfold zcC
 by_cases h:p.more>0
 ·rw [zce h,if_pos h]
 ·rw [zca h,if_neg h]
theorem zjY (mask:Nat)(h:Int) : ∀ n,(pth mask h n).dummy=none
 | 0=>rfl
 | n+1=>by
  show (zcC mask (pth mask h n)).dummy=none
  unfold zcC
  split<;>exact zjY mask h n
section
variable {t:SetTable}{n:Nat}
theorem zeg {j i:Nat}(h:t.slot j=.live i) : t.place[i]?=some j:=by
 unfold slot at h
 dsimp only at h
 split at h
 ·rename_i c
  cases h
  exact eq_of_beq c
 ·split at h<;>cases h
theorem zjD (h:TOk t n){j:Nat}(hj:j∈t.place.toList) : ∃ i,t.slot j=.live i:=by
 cases e:t.slot j with
 | live i=>exact ⟨i,rfl⟩
 | empty=>exact absurd hj (zbE h.rise (.inl e))
 | dummy=>exact absurd hj (zbE h.rise (.inr e))
theorem zkp (h:TOk t n){j:Nat}(e:t.slot j=.empty) : j∉t.place.toList:=zbE h.rise (.inl e)
theorem zeA (h:TOk t n){i i' j:Nat}(a:t.place[i]?=some j)(b:t.place[i']?=some j) : i=i':=by
 have nd:t.place.toList.Nodup:=h.rise.imp fun q e=>by lia
 rw [<- Array.getElem?_toList] at a b
 exact (List.getElem?_inj (List.getElem?_eq_some_iff.mp a).1 nd).mp (a.trans b.symm)
theorem zmo (h:TOk t n){i j:Nat}(a:t.place[i]?=some j) : t.slot j=.live i:=by
 obtain ⟨i',e⟩:=zjD h (Array.mem_toList_iff.mpr (Array.mem_of_getElem? a))
 rw [e,zeA h a (zeg e)]
theorem zjL (h:TOk t n)(x:Int) : ∀ (fuel m j:Nat) (d:Option Nat),probe.go t (fun _=>x+1) x fuel (pth t.mask x m)=some (.empty j d)->∃ N,m<=N/\N<m+fuel/\(pth t.mask x N).j=j/\j∉t.place.toList/\∀ i,m<=i->i<N->(pth t.mask x i).j∈t.place.toList
 | 0,m,j,d,e=>by unfold probe.go at e;cases e
 | fuel + 1, m, j, d, e => by
  unfold probe.go at e
  cases es:t.slot (pth t.mask x m).j with
  | empty =>
   rw [es] at e
   have e:some (Met.empty (pth t.mask x m).j (pth t.mask x m).dummy)=some (.empty j d):=e
   injection e with e
   injection e with e1 _
   exact ⟨m,Nat.le_refl _,by lia,e1,by rw [<- e1];exact zkp h es,fun i h1 h2=>by lia⟩
  | dummy=>exact absurd es (zhV h.nod _)
  | live y =>
   rw [es] at e
   have ne:(x+1 == x)=false:=by
    apply Bool.eq_false_iff.mpr
    intro z
    have:=eq_of_beq z
    lia
   have e:(if (x+1 == x)=true then some (Met.candidate (pth t.mask x m).j y (t.advance (pth t.mask x m))) else probe.go t (fun _=>x+1) x fuel (t.advance (pth t.mask x m)))=some (.empty j d):=e
   rw [ne,if_neg (by simp),zcu] at e
   obtain ⟨N,n1,n2,n3,n4,n5⟩:=zjL h x fuel (m+1) j d e
   refine ⟨N,by lia,by lia,n3,n4,fun i h1 h2=>?_⟩
   by_cases c:i=m
   ·rw [c];exact Array.mem_toList_iff.mpr (Array.mem_of_getElem? (zeg es))
   ·exact n5 i (by lia) h2
theorem zh3 (h:TOk t n)(x:Int) : ∃ N,N<10*turns t.mask/\(pth t.mask x N).j∉t.place.toList/\(pth t.mask x N).j<=t.mask/\∀ i,i<N->(pth t.mask x i).j∈t.place.toList:=by
 obtain ⟨j,e,hj,hm⟩:=zfA h x
 unfold SetTable.freeSlot probe at e
 cases ep:probe.go t (fun _=>x+1) x (10*turns t.mask) (t.probeStart x) with
 | none=>rw [ep] at e;cases e
 | some met =>
  rw [ep] at e
  cases met with
  | candidate a b c=>cases e
  | empty j' d =>
   obtain ⟨N,_,n2,n3,n4,n5⟩:=zjL h x _ 0 j' d ep
   have e:some (d.getD j',d.isSome)=some (j,false):=e
   injection e with e
   injection e with e1 e2
   cases d with
   | some _=>cases e2
   | none =>
    have e1:j'=j:=e1
    exact ⟨N,by lia,by rw [n3,e1];exact hj,by rw [n3,e1];exact hm,fun i hi=>n5 i (Nat.zero_le _) hi⟩
theorem zli (h:TOk t n){x:Int}{hashAt:Nat->Int}{N:Nat}(hN:(pth t.mask x N).j∉t.place.toList)(hl:∀ i,i<N->(pth t.mask x i).j∈t.place.toList) : ∀ (fuel m:Nat),m<=N->N<m+fuel ->
  (∃ m' i,m<=m'/\m' < N/\t.place[i]?=some (pth t.mask x m').j/\hashAt i=x/\probe.go t hashAt x fuel (pth t.mask x m)=some (.candidate (pth t.mask x m').j i (pth t.mask x (m'+1)))/\∀ q i,m<=q->q<m'->t.place[i]?=some (pth t.mask x q).j->hashAt i≠x) \/
  (probe.go t hashAt x fuel (pth t.mask x m)=some (.empty (pth t.mask x N).j none)/\∀ q i,m<=q->q<N->t.place[i]?=some (pth t.mask x q).j->hashAt i≠x)
 | 0,m,h1,h2=>by lia
 | fuel + 1, m, h1, h2 => by
  by_cases c:m=N
  ·subst c
   right
   refine ⟨?_,fun q i a b=>by lia⟩
   unfold probe.go
   rw [slot_of h _ hN]
   show some (Met.empty _ (pth t.mask x m).dummy)=_
   rw [zjY]
  ·obtain ⟨i,es⟩:=zjD h (hl m (by lia))
   have ep:=zeg es
   by_cases ce:hashAt i=x
   ·left
    refine ⟨m,i,Nat.le_refl _,by lia,ep,ce,?_,fun q i a b=>by lia⟩
    unfold probe.go
    rw [es]
    show (if (hashAt i == x)=true then some (Met.candidate _ i (t.advance _)) else _)=_
    rw [if_pos (by rw [ce];simp),zcu]
    rfl
   ·have eg:probe.go t hashAt x (fuel+1) (pth t.mask x m)=probe.go t hashAt x fuel (pth t.mask x (m+1)):=by
     conv=>lhs;unfold probe.go
     rw [es]
     show (if (hashAt i == x)=true then some (Met.candidate _ i (t.advance _)) else _)=_
     rw [if_neg (by simpa using ce),zcu]
     rfl
    have ne:∀ i',t.place[i']?=some (pth t.mask x m).j->hashAt i'≠x:=fun i' e'=>by rw [zeA h e' ep];exact ce
    rcases zli h hN hl fuel (m+1) (by lia) (by lia) with ⟨m',i',a,b,c',d,e,f⟩ | ⟨e,f⟩
    ·refine .inl ⟨m',i',by lia,b,c',d,by rw [eg];exact e,fun q i'' a' b'=>?_⟩
     by_cases cq:q=m
     ·rw [cq];exact ne i''
     ·exact f q i'' (by lia) b'
    ·refine .inr ⟨by rw [eg];exact e,fun q i'' a' b'=>?_⟩
     by_cases cq:q=m
     ·rw [cq];exact ne i''
     ·exact f q i'' (by lia) b'
end
def Rch (t:SetTable)(hs:List Int) : Prop:=∀ (i j:Nat) (x:Int),t.place.toList[i]?=some j->hs[i]?=some x->∃ n,(pth t.mask x n).j=j/\∀ m,m<n->(pth t.mask x m).j∈t.place.toList
theorem zf3 {mask i:Nat}(h:i<=mask) : runEnd mask i<=mask:=by unfold runEnd;split<;>lia
theorem zmG {mask:Nat}{x:Int}{m i p:Nat}(e:pth mask x m=⟨i,runEnd mask i-i,i,p,none⟩) : (∀ k,k<=runEnd mask i-i->pth mask x (m+k)=⟨i+k,runEnd mask i-i-k,i,p,none⟩) /\
  pth mask x (m+(runEnd mask i-i)+1)=⟨(leap mask i p).1,runEnd mask (leap mask i p).1-(leap mask i p).1,(leap mask i p).1,(leap mask i p).2,none⟩:=by
 have run:∀ k,k<=runEnd mask i-i->pth mask x (m+k)=⟨i+k,runEnd mask i-i-k,i,p,none⟩:=by
  intro k
  induction k with
  | zero=>intro _;exact e
  | succ k ih =>
   intro hk
   have:=ih (by lia)
   show zcC mask (pth mask x (m+k))=_
   rw [this]
   unfold zcC
   rw [if_pos (show runEnd mask i-i-k>0 by lia)]
   show Probe.mk (i+k+1) (runEnd mask i-i-k-1) i p none=_
   congr 1
 refine ⟨run,?_⟩
 show zcC mask (pth mask x (m+(runEnd mask i-i)))=_
 rw [run _ (Nat.le_refl _)]
 unfold zcC
 rw [if_neg (show ¬ runEnd mask i-i-(runEnd mask i-i)>0 by lia)]
theorem zhY (mask:Nat)(x:Int) : ∀ n,(pth mask x n).j+(pth mask x n).more<=mask
 | 0=>by
  have h:bits x % (mask+1)<=mask:=Nat.le_of_lt_succ (Nat.mod_lt _ (Nat.succ_pos _))
  have:=zcj mask (bits x % (mask+1))
  have:=zf3 h
  show bits x % (mask+1)+(runEnd mask (bits x % (mask+1))-bits x % (mask+1))<=mask
  lia
 | n + 1 => by
  have ih:=zhY mask x n
  show (zcC mask (pth mask x n)).j+(zcC mask (pth mask x n)).more<=mask
  unfold zcC
  split
  ·show (pth mask x n).j+1+((pth mask x n).more-1)<=mask
   lia
  ·have h:(leap mask (pth mask x n).i (pth mask x n).perturb).1<=mask:=by
    unfold leap
    exact Nat.le_of_lt_succ (Nat.mod_lt _ (Nat.succ_pos _))
   have:=zcj mask (leap mask (pth mask x n).i (pth mask x n).perturb).1
   have:=zf3 h
   show (leap mask (pth mask x n).i (pth mask x n).perturb).1+(runEnd mask (leap mask (pth mask x n).i (pth mask x n).perturb).1-(leap mask (pth mask x n).i (pth mask x n).perturb).1)<=mask
   lia
theorem zgF {mask:Nat}{x:Int}{owner:Array (Option Nat)} : ∀ (fuel m i p j:Nat),pth mask x m=⟨i,runEnd mask i-i,i,p,none⟩->layClean.free mask owner fuel i p=some j ->
  ∃ N,m<=N/\(pth mask x N).j=j/\owner.getD j (some 0)=none/\∀ q,m<=q->q<N->owner.getD (pth mask x q).j (some 0)≠none
 | 0,m,i,p,j,_,e=>by unfold layClean.free at e;cases e
 | fuel + 1, m, i, p, j, ep, e => by
  obtain ⟨run,nxt⟩:=zmG ep
  unfold layClean.free at e
  cases hf:(List.range (runEnd mask i+1-i)).find? fun k=>(owner.getD (i+k) (some 0)).isNone with
  | some k =>
   rw [hf] at e
   have e:some (i+k)=some j:=e
   have e:=Option.some.inj e
   obtain ⟨h1,as,bs,hr,h3⟩:=List.find?_eq_some_iff_append.mp hf
   have hk:k<runEnd mask i+1-i:=by
    have:k∈List.range (runEnd mask i+1-i):=by rw [hr];simp
    exact List.mem_range.mp this
   have las:as.length=k:=by
    have g:(List.range (runEnd mask i+1-i))[as.length]?=some k:=by rw [hr,List.getElem?_append_right (Nat.le_refl _),Nat.sub_self];rfl
    rw [List.getElem?_eq_some_iff] at g
    obtain ⟨gh,ge⟩:=g
    rw [List.getElem_range] at ge
    exact ge
   have ge:=zcj mask i
   refine ⟨m+k,by lia,by rw [run k (by lia)];exact e,by rw [<- e];exact Option.isNone_iff_eq_none.mp h1,fun q q1 q2=>?_⟩
   obtain ⟨d,rfl⟩ : ∃ d,q=m+d:=⟨q-m,by lia⟩
   rw [run d (by lia)]
   have md:d∈as:=by
    have g:(List.range (runEnd mask i+1-i))[d]?=some d:=by
     rw [List.getElem?_eq_some_iff]
     exact ⟨by rw [List.length_range];lia,by rw [List.getElem_range]⟩
    rw [hr,List.getElem?_append_left (by lia)] at g
    exact List.mem_of_getElem? g
   have:=h3 d md
   intro z
   show False
   have z:owner.getD (i+d) (some 0)=none:=z
   rw [z] at this
   cases this
  | none =>
   rw [hf] at e
   have e:layClean.free mask owner fuel (leap mask i p).1 (leap mask i p).2=some j:=e
   obtain ⟨N,n1,n2,n3,n4⟩:=zgF fuel _ _ _ j nxt e
   refine ⟨N,by lia,n2,n3,fun q q1 q2=>?_⟩
   by_cases c:q<m+(runEnd mask i-i)+1
   ·obtain ⟨d,rfl⟩ : ∃ d,q=m+d:=⟨q-m,by lia⟩
    rw [run d (by lia)]
    have hn:=List.find?_eq_none.mp hf d (List.mem_range.mpr (by have:=zcj mask i;lia))
    intro z
    have z:owner.getD (i+d) (some 0)=none:=z
    rw [z] at hn
    exact hn rfl
   ·exact n4 q (by lia) q2
def OwnR (mask:Nat)(owner:Array (Option Nat))(hs:List Int) : Prop:=∀ j q,owner.getD j none=some q->∃ x,hs[q]?=some x/\∃ n,(pth mask x n).j=j/\∀ m,m<n->owner.getD (pth mask x m).j none≠none
theorem getD_in {owner:Array (Option Nat)}{j:Nat}(h:j<owner.size)(d:Option Nat) : owner.getD j d=owner.getD j none:=by simp [Array.getD,h]
theorem zhC {owner:Array (Option Nat)}{j k:Nat}(h:j<owner.size)(i:Nat) : (owner.setIfInBounds j (some k)).getD i none=if i=j then some k else owner.getD i none:=by
 rw [Array.getD_eq_getD_getElem?,Array.getD_eq_getD_getElem?,Array.getElem?_setIfInBounds]
 by_cases c:i=j
 ·rw [if_pos c.symm,if_pos c,if_pos (by lia)];rfl
 ·rw [if_neg (Ne.symm c),if_neg c]
theorem zfR {mask:Nat} : ∀ (hs:List Int) (owner:Array (Option Nat)) (done:List Int) (r:Array (Option Nat)×Nat),owner.size=mask+1->OwnR mask owner done ->
  (hs.foldl (init:=some (owner,done.length)) fun acc h=>do
    let (owner,k) <- acc
    let j <- layClean.free mask owner (turns mask) (bits h % (mask+1)) (bits h)
    pure (owner.setIfInBounds j (some k),k+1))=some r->r.1.size=mask+1/\OwnR mask r.1 (done++hs)
 | [],owner,done,r,h1,h2,e=>by
  have e:some (owner,done.length)=some r:=e
  cases e
  rw [List.append_nil];exact ⟨h1,h2⟩
 | h :: hs, owner, done, r, h1, h2, e => by
  rw [List.foldl_cons] at e
  cases ej:layClean.free mask owner (turns mask) (bits h % (mask+1)) (bits h) with
  | none =>
   exfalso
   have e:List.foldl _ (do
    let j <- layClean.free mask owner (turns mask) (bits h % (mask+1)) (bits h)
    pure (owner.setIfInBounds j (some done.length),done.length+1)) hs=some r:=e
   rw [ej] at e
   have nn:∀ l:List Int,(l.foldl (init:=(none:Option (Array (Option Nat)×Nat))) fun acc h=>do
    let (owner,k) <- acc
    let j <- layClean.free mask owner (turns mask) (bits h % (mask+1)) (bits h)
    pure (owner.setIfInBounds j (some k),k+1))=none:=by
    intro l
    induction l with
    | nil=>rfl
    | cons a l ih=>rw [List.foldl_cons];exact ih
   have e2:=nn hs
   have e3:(none:Option (Array (Option Nat)×Nat))=some r:=e2.symm.trans e
   cases e3
  | some j =>
   have e:List.foldl _ (do
    let j <- layClean.free mask owner (turns mask) (bits h % (mask+1)) (bits h)
    pure (owner.setIfInBounds j (some done.length),done.length+1)) hs=some r:=e
   rw [ej] at e
   obtain ⟨N,_,n2,n3,n4⟩:=zgF (x:=h) (turns mask) 0 _ _ j rfl ej
   have jl:j<owner.size:=by
    have:=zhY mask h N
    rw [n2] at this
    lia
   have ol:∀ q,(pth mask h q).j<owner.size:=fun q=>by have:=zhY mask h q;lia
   have key:OwnR mask (owner.setIfInBounds j (some done.length)) (done++[h]):=by
    intro j' q hq
    rw [zhC jl] at hq
    have keep:∀ i,owner.getD i none≠none->(owner.setIfInBounds j (some done.length)).getD i none≠none:=fun i hi=>by
     rw [zhC jl]
     split
     ·simp
     ·exact hi
    by_cases c:j'=j
    ·rw [if_pos c] at hq
     have hq:=Option.some.inj hq
     refine ⟨h,by rw [<- hq,List.getElem?_append_right (Nat.le_refl _),Nat.sub_self];rfl,N,by rw [n2,c],fun m hm=>keep _ ?_⟩
     have:=n4 m (Nat.zero_le _) hm
     rwa [getD_in (ol m)] at this
    ·rw [if_neg c] at hq
     obtain ⟨x,e1,n,e2,e3⟩:=h2 j' q hq
     refine ⟨x,?_,n,e2,fun m hm=>keep _ (e3 m hm)⟩
     rw [List.getElem?_append_left (List.getElem?_eq_some_iff.mp e1).1]
     exact e1
   have:=zfR hs (owner.setIfInBounds j (some done.length)) (done++[h]) r (by simpa using h1) key (by rw [List.length_append,List.length_singleton];exact e)
   rwa [List.append_assoc] at this
theorem zln {α β:Type}{f:α->Option β} : ∀ {l:List α},(∀ x∈l,(f x).isSome=true)->∀ i:Nat,(l.filterMap f)[i]?=(l[i]?).bind f
 | [],_,i=>by simp
 | x :: l, h, i => by
  have hx:=h x List.mem_cons_self
  cases e:f x with
  | none=>rw [e] at hx;cases hx
  | some y =>
   rw [List.filterMap_cons_some e]
   cases i with
   | zero=>show some y=f x;rw [e]
   | succ i=>exact zln (fun z hz=>h z (List.mem_cons_of_mem _ hz)) i
theorem ze7 {t':SetTable}{mask finger moves:Nat}{led plain:Bool}{es:Array (Int×Value)}{order:Array Nat}(e:SetTable.laid mask finger moves led plain (es.map (·.1))=some (t',order))(ok:order.toList.Perm (List.range es.size)) : Rch t' ((order.filterMap (es[·]?)).toList.map (·.1)):=by
 unfold SetTable.laid at e
 cases eo:layClean (mask) (es.map (·.1)) with
 | none=>rw [eo] at e;cases e
 | some owner =>
  rw [eo] at e
  have e:=Option.some.inj e
  injection e with e1 e2
  unfold layClean at eo
  rw [<- Array.foldl_toList] at eo
  cases ef:List.foldl (fun (acc:Option (Array (Option Nat)×Nat)) h=>do
    let (owner,k) <- acc
    let j <- layClean.free (mask) owner (turns (mask)) (bits h % (mask+1)) (bits h)
    pure (owner.setIfInBounds j (some k),k+1)) (some (Array.replicate (mask+1) none,0)) (es.map (·.1)).toList with
  | none=>rw [ef] at eo;cases eo
  | some r =>
   rw [ef] at eo
   have eo:=Option.some.inj eo
   obtain ⟨r1,r2⟩:=zfR (es.map (·.1)).toList (Array.replicate (mask+1) none) [] r (by simp) (fun j q hq=>by
    exfalso
    rw [Array.getD_eq_getD_getElem?,Array.getElem?_replicate] at hq
    split at hq<;>cases hq) ef
   have eo:r.1=owner:=eo
   rw [eo,List.nil_append] at r2
   have memP:∀ j,owner.getD j none≠none->j<=mask->j∈t'.place.toList:=by
    intro j hj hl
    rw [<- e1]
    cases ej:owner.getD j none with
    | none=>exact absurd ej hj
    | some q =>
     show j∈List.map (fun p:Nat×Nat=>p.1) ((List.range (mask+1)).filterMap fun j=>(owner.getD j none).map (j,·))
     refine List.mem_map.mpr ⟨(j,q),List.mem_filterMap.mpr ⟨j,List.mem_range.mpr (by lia),by rw [ej];rfl⟩,rfl⟩
   intro i j x hp hx
   rw [<- e1] at hp
   have hp:(List.map (·.1) ((List.range (mask+1)).filterMap fun j=>(owner.getD j none).map (j,·)))[i]?=some j:=hp
   rw [List.getElem?_map] at hp
   cases el:((List.range (mask+1)).filterMap fun j=>(owner.getD j none).map (j,·))[i]? with
   | none=>rw [el] at hp;cases hp
   | some y =>
    rw [el] at hp
    have hp:y.1=j:=Option.some.inj hp
    obtain ⟨j0,_,hj0⟩:=List.mem_filterMap.mp (List.mem_of_getElem? el)
    cases ej:owner.getD j0 none with
    | none=>rw [ej] at hj0;cases hj0
    | some q =>
     rw [ej] at hj0
     have hj0:(j0,q)=y:=Option.some.inj hj0
     subst hj0
     have hp:j0=j:=hp
     subst hp
     obtain ⟨x',g1,n,g2,g3⟩:=r2 j0 q ej
     have ho:order.toList[i]?=some q:=by
      rw [<- e2]
      show (List.map (·.2) ((List.range (mask+1)).filterMap fun j=>(owner.getD j none).map (j,·)))[i]?=some q
      rw [List.getElem?_map,el];rfl
     have hx':((order.filterMap (es[·]?)).toList.map (·.1))[i]?=some x':=by
      rw [Array.toList_filterMap,List.getElem?_map,zln (fun q hq=>by
       have:q<es.size:=List.mem_range.mp (ok.mem_iff.mp hq)
       simp [this]),ho]
      show Option.map (·.1) (es[q]?)=some x'
      rw [Array.toList_map,List.getElem?_map,Array.getElem?_toList] at g1
      exact g1
     have ex:x'=x:=Option.some.inj (hx'.symm.trans hx)
     rw [<- ex]
     refine ⟨n,by rw [<- e1];exact g2,fun m hm=>?_⟩
     have mk:t'.mask=mask:=by rw [<- e1]
     rw [mk]
     refine memP _ (g3 m hm) ?_
     have:=zhY (mask) x' m
     lia
theorem zdH {t t':SetTable}{es:Array (Int×Value)}{wanted:Nat}{order:Array Nat}(e:t.relaid (es.map (·.1)) wanted=some (t',order))(ok:order.toList.Perm (List.range es.size)) : Rch t' ((order.filterMap (es[·]?)).toList.map (·.1)):=ze7 e ok
end Wr
namespace Wr
open PySem SetTable PyProof.Rows
abbrev IsRow (prog:Program)(w:World)(h:Heap)(k:List Int)(a:Addr) : Prop:=IsTupleKey (intKind prog w) h k a
abbrev zav (prog:Program)(w:World)(k:List Int) : Int:=tupleKeyHash (intKind prog w) k
section
variable {prog:Program}{w:World}{A:Around}{E:Value->Shared->Prop}{s:Shared}
theorem IsRow.keeps {h h':Heap}{k:List Int}{a:Addr}(x:IsRow prog w h k a)(kp:∀ o,h.get? a=some o->o.cls=.type "tuple" -> h'.get? a=some o) : IsRow prog w h' k a:=by
 obtain ⟨o,items,n,ho,hc,hd,hi⟩:=x
 exact ⟨o,items,n,kp o ho hc,hc,hd,hi⟩
theorem zfZ {k:List Int}{a:Addr}{Q:Bool->Shared->Prop}(hk:IsRow prog w s.heap k a)(h:Q false s) : wpAny (model prog w) A (ofAClassStatement 8 (.ref a)) Q E s:=by
 have hT:=hk.typeIs
 obtain ⟨o,items,n,ho,hc,hd,hi⟩:=hk
 unfold ofAClassStatement
 refine wpAny_bind (wpAny_typeOf hT ?_)
 refine zbi (show ("tuple" == "tuple")=true by decide) (wpAny_bind (wpAny_pure (zao (show ¬ (!true)=true by decide) ?_)))
 refine wpAny_bind (wpAny_seqItems ho hd ?_)
 refine wpAny_bind ?_
 show wpAny _ _ (forIn items _ _) _ _ s
 rw [<- Array.forIn_toList]
 refine wpAny_forIn_list _ (fun rest r s'=>r.1=none/\s'=s/\∀ v∈rest,carriedByValue v=true) _ ?_ ?_ _ _ ⟨rfl,rfl,hi.byValue⟩
 ·rintro v rest r s' ⟨hr,rfl,hall⟩
  have e:ofAClassStatement 7 v=pure false:=by
   have:=hall v List.mem_cons_self
   cases v<;>first | rfl | (simp [carriedByValue] at this)
  show wpAny _ _ (ofAClassStatement 7 v >>= _) _ _ _
  rw [e]
  refine wpAny_bind (wpAny_pure ?_)
  simp only [Bool.false_eq_true,if_false]
  exact wpAny_pure ⟨rfl,rfl,fun u hu'=>hall u (List.mem_cons_of_mem _ hu')⟩
 ·rintro ⟨r1,r2⟩ s' ⟨hr,rfl,_⟩
  simp only at hr
  subst hr
  exact wpAny_pure h
theorem zha {k:List Int}{a:Addr}{Q:Bool->Shared->Prop}(hk:IsRow prog w s.heap k a)(h:Q true s) : wpAny (model prog w) A (hashByValue 8 (.ref a)) Q E s:=by
 have hT:=hk.typeIs
 obtain ⟨o,items,n,ho,hc,hd,hi⟩:=hk
 unfold hashByValue
 refine wpAny_bind (wpAny_specialOf hT F.slot_tuple_hash.lookup ?_)
 show wpAny _ _ (seqItems? (.ref a) >>= _) Q E s
 refine wpAny_bind (wpAny_seqItems ho hd ?_)
 refine wpAny_bind ?_
 show wpAny _ _ (forIn items _ _) _ _ s
 rw [<- Array.forIn_toList]
 have intz:∀ v∈items.toList,∃ n t,v=Value.int n t:=by
  clear ho hd hT
  generalize items.toList=l at hi
  induction hi with
  | nil=>intro v hv;cases hv
  | cons hx _ ih =>
   intro v hv
   rcases List.mem_cons.mp hv with rfl | hv
   ·obtain ⟨t,e⟩:=Value.isInt_shape hx
    exact ⟨_,t,e⟩
   ·exact ih v hv
 refine wpAny_forIn_list _ (fun rest r s'=>r.1=none/\s'=s/\∀ v∈rest,∃ n t,v=Value.int n t) _ ?_ ?_ _ _ ⟨rfl,rfl,intz⟩
 ·rintro v rest r s' ⟨hr,rfl,hall⟩
  obtain ⟨n,t,rfl⟩:=hall v List.mem_cons_self
  show wpAny _ _ (hashByValue 7 (.int n t) >>= _) _ _ _
  rw [show hashByValue 7 (.int n t)=pure true from rfl]
  refine wpAny_bind (wpAny_pure ?_)
  simp only [Bool.not_true,Bool.false_eq_true,if_false]
  exact wpAny_pure ⟨rfl,rfl,fun u hu'=>hall u (List.mem_cons_of_mem _ hu')⟩
 ·rintro ⟨r1,r2⟩ s' ⟨hr,rfl,_⟩
  simp only at hr
  subst hr
  exact wpAny_pure h
theorem zhK {k:List Int}{a:Addr}{l:List Value}{Q:Bool->Shared->Prop}(hk:IsRow prog w s.heap k a)(hl:∀ y∈l,∃ k' b,y=.ref b/\IsRow prog w s.heap k' b)(h:Q false s) : wpAny (model prog w) A (searchCouldBeSeen (.ref a) l) Q E s:=by
 unfold searchCouldBeSeen
 refine wpAny_bind ?_
 refine wpAny_forIn_list _ (fun rest r s'=>r.1=none/\s'=s/\∀ y∈rest,∃ k' b,y=.ref b/\IsRow prog w s.heap k' b) _ ?_ ?_ _ _ ⟨rfl,rfl,hl⟩
 ·rintro y rest r s' ⟨hr,rfl,hall⟩
  obtain ⟨k',b,rfl,hb⟩:=hall y List.mem_cons_self
  have tl:∀ y∈rest,∃ k' b,y=.ref b/\IsRow prog w s'.heap k' b:=fun u hu'=>hall u (List.mem_cons_of_mem _ hu')
  by_cases c:(a == b)=true
  ·refine zbi ?_ (wpAny_pure ⟨rfl,rfl,tl⟩)
   show ((a == b)||_)=true
   rw [c];rfl
  ·refine zao ?_ ?_
   ·show ¬ ((a == b)||(carriedByValue (.ref a)&&carriedByValue (.ref b)))=true
    simp only [Bool.not_eq_true] at c
    rw [c];simp [carriedByValue]
   refine wpAny_bind (wpAny_eqIsQuiet_tuple hk ?_)
   simp only [Bool.not_true,Bool.false_eq_true,if_false]
   refine wpAny_bind (wpAny_eqIsQuiet_tuple hb ?_)
   simp only [Bool.not_true,Bool.false_eq_true,if_false]
   refine wpAny_bind (zfZ hk ?_)
   simp only [Bool.false_eq_true,if_false]
   refine wpAny_bind (zfZ hb ?_)
   simp only [Bool.false_eq_true,if_false]
   exact wpAny_pure ⟨rfl,rfl,tl⟩
 ·rintro ⟨r1,r2⟩ s' ⟨hr,rfl,_⟩
  simp only at hr
  subst hr
  exact wpAny_pure h
end
abbrev RP:=List Int×Addr
def ElemR (prog:Program)(w:World)(h:Heap)(e:Int×Value)(p:RP) : Prop:=e.1=zav prog w p.1/\e.2=.ref p.2/\IsRow prog w h p.1 p.2
def zm2 (prog:Program)(w:World)(h:Heap)(e:Int×Value)(k:List Int) : Prop:=e.1=zav prog w k/\∃ b,e.2=.ref b/\IsRow prog w h k b
structure RwRaw (prog:Program) (w:World) (h:Heap) (a:Addr) (ps:List RP) (o:Obj) (es:Array (Int×Value)) (ep:Nat) (t:SetTable) : Prop where
 at':h.get? a=some o
 ex:o.ExactSet
 dat:o.data=.set es ep t
 prs:Paired (ElemR prog w h) es.toList ps
 nd:(ps.map (·.1)).Nodup
 ok:TOk t es.size
 rch:Rch t (es.toList.map (·.1))
 led:byTx w=false->t.led=true
theorem zbO {M:Model}{A:Around}{α:Type}{c:Prop}[Decidable c]{a b:Sem α}{Q:α->Shared->Prop}{E:Value->Shared->Prop}{s:Shared}(h1:c->wpAny M A a Q E s)(h2 : ¬ c->wpAny M A b Q E s) : wpAny M A (if c then a else b) Q E s:=by
 by_cases h:c
 ·rw [if_pos h];exact h1 h
 ·rw [if_neg h];exact h2 h
theorem zkP {α β:Type}{R:α->β->Prop} : ∀ {xs:List α} {ys:List β},Paired R xs ys->∀ {i:Nat} {x:α},xs[i]?=some x->∃ y,ys[i]?=some y/\R x y
 | _,_,.nil,i,x,h=>by simp at h
 | _,_,.cons r t,0,x,h=>by
  have h:=Option.some.inj h
  exact ⟨_,rfl,h ▸ r⟩
 | _,_,.cons r t,i+1,x,h=>zkP t h
theorem zgI {α β:Type}{R:α->β->Prop} : ∀ {xs:List α} {ys:List β},Paired R xs ys->∀ {i:Nat} {y:β},ys[i]?=some y->∃ x,xs[i]?=some x/\R x y
 | _,_,.nil,i,x,h=>by simp at h
 | _,_,.cons r t,0,x,h=>by
  have h:=Option.some.inj h
  exact ⟨_,rfl,h ▸ r⟩
 | _,_,.cons r t,i+1,x,h=>zgI t h
theorem zhS {t:SetTable}{n:Nat}(h:TOk t n) : t.gaveWay=false:=by
 unfold SetTable.gaveWay
 have:∀ m∈zi6,m % 2=0/\8<=m:=by decide
 have:=this _ h.msk
 apply Bool.eq_false_iff.mpr
 intro z
 have:=eq_of_beq z
 lia
theorem zfS {t:SetTable}{n:Nat}(h:TOk t n) : 10*turns t.mask<100000:=by
 have:∀ m∈zi6,m<=512:=by decide
 have:=this _ h.msk
 unfold turns
 lia
section
variable {prog:Program}{w:World}{A:Around}{E:Value->Shared->Prop}{s:Shared}{a x:Addr}{ps:List RP}{k:List Int}{o:Obj}{es:Array (Int×Value)}{ep:Nat}{t:SetTable}
theorem RwRaw.keys {h:Heap}(R:RwRaw prog w h a ps o es ep t) : Paired (zm2 prog w h) es.toList (ps.map (·.1)):=by
 have this:=R.prs
 clear R
 generalize es.toList=l at this
 induction this with
 | nil=>exact .nil
 | cons r _ ih=>exact .cons ⟨r.1,_,r.2.1,r.2.2⟩ ih
theorem RwRaw.len {h:Heap}(R:RwRaw prog w h a ps o es ep t) : es.size=ps.length:=by rw [<- Array.length_toList];exact zdv R.prs
theorem zgK {adding:Bool}{Q:SetFound->Shared->Prop}(R:RwRaw prog w s.heap a ps o es ep t)(hu:A.units<cLine)(hx:IsRow prog w s.heap k x)
  (h1:k∈ps.map (·.1)->∀ r,(adding=false->r.isSome=true)->Q (.there r) s)
  (h2:k∉ps.map (·.1)->∀ N,(pth t.mask (zav prog w k) N).j∉t.place.toList->(pth t.mask (zav prog w k) N).j<=t.mask->(∀ m,m<N->(pth t.mask (zav prog w k) m).j∈t.place.toList)->Q (.free (pth t.mask (zav prog w k) N).j false) s) :
  wpAny (model prog w) A (setSearch a (.ref x) (zav prog w k) adding) Q E s:=by
 have prs:=R.keys
 have hlk:(ps.map (·.1)).length=ps.length:=List.length_map ..
 have hlen:=R.len
 generalize ps.map (·.1)=ks at prs h1 h2 hlk
 obtain ⟨N,n1,n2,n3,n4⟩:=zh3 R.ok (zav prog w k)
 have ft:=zfS R.ok
 have go : ∀ (fuel m : Nat) (stand : Option Probe), stand.getD (t.probeStart (zav prog w k)) = pth t.mask (zav prog w k) m → m ≤ N → N < m + fuel → (∀ q i : Nat, q < m → t.place[i]? = some (pth t.mask (zav prog w k) q).j → ks[i]? ≠ some k) →
   wpAny (model prog w) A (setSearchFrom a (.ref x) (zav prog w k) adding fuel stand) Q E s:=by
  intro fuel
  induction fuel with
  | zero=>intro m stand _ h1 h2;lia
  | succ fuel ih =>
   intro m stand est hm hf vis
   unfold setSearchFrom
   refine wpAny_bind (wpAny_setState_of R.at' R.dat R.ok.fits ?_)
   dsimp only
   refine zao (by rw [zhS R.ok];simp) ?_
   rw [est]
   have noh:∀ q i:Nat,t.place[i]?=some (pth t.mask (zav prog w k) q).j->((es[i]?.map (·.1)).getD 0)≠zav prog w k->ks[i]?≠some k:=by
    intro q i hp hh hk
    obtain ⟨e,he,hr,_⟩:=zgI prs hk
    rw [Array.getElem?_toList] at he
    rw [he] at hh
    exact hh hr
   unfold probe
   rcases zli R.ok (hashAt:=fun i=>(es[i]?.map (·.1)).getD 0) n2 n4 (10*turns t.mask) m hm (by lia) with ⟨m',i,a1,a2,a3,a4,a5,a6⟩ | ⟨a5,a6⟩
   ·show wpAny _ _ (match probe.go t (fun i=>(es[i]?.map (·.1)).getD 0) (zav prog w k) (10*turns t.mask) (pth t.mask (zav prog w k) m) with | some met=>_ | x=>_) Q E s
    rw [a5]
    dsimp only
    have il:i<es.size:=by
     have:=(Array.getElem?_eq_some_iff.mp a3).1
     rw [R.ok.sz] at this
     exact this
    obtain ⟨⟨hy,y⟩,ey⟩ : ∃ e,es[i]?=some e:=⟨es[i],by simp [il]⟩
    obtain ⟨k',ek,er1,b,er2,er3⟩:=zkP prs (i:=i) (x:=(hy,y)) (by rw [Array.getElem?_toList];exact ey)
    have er2:y=.ref b:=er2
    subst er2
    have seen:∀ y∈((es.filter (·.1 == zav prog w k)).toList.map (·.2)),∃ k' b,y=.ref b/\IsRow prog w s.heap k' b:=by
     intro y hy
     obtain ⟨e,he,rfl⟩:=List.mem_map.mp hy
     have he:e∈es.toList:=by
      rw [Array.toList_filter] at he
      exact (List.mem_filter.mp he).1
     obtain ⟨k2,_,_,b2,h3,h4⟩:=zd0 prs he
     exact ⟨k2,b2,h3,h4⟩
    have sl:t.slot (pth t.mask (zav prog w k) m').j=.live i:=zmo R.ok a3
    refine zbO (fun hl=>wpAny_bind (zhK hx seen (zao (by simp) ?_))) (fun hl=>?_)
    all_goals
     rw [ey]
     dsimp only
     refine wpAny_bind (wpAny_holding (wpAny_eqBool_tuple hu er3 hx ?_))
     refine wpAny_bind (wpAny_setState_of R.at' R.dat R.ok.fits ?_)
     dsimp only
     have hin:k'=k->k∈ks:=fun e=>e ▸ List.mem_of_getElem? ek
     refine zbO (fun c=>?_) (fun c=>?_)
     ·rw [Bool.and_eq_true] at c
      have e:=of_decide_eq_true c.2
      exact wpAny_pure (h1 (hin e) none fun z=>by rw [z] at c;exact absurd c.1 (by simp))
     have sm:t.sameMemory t.moves t.mask=some true:=by unfold SetTable.sameMemory;rw [if_pos (by simp)]
     rw [sm]
     dsimp only
     rw [if_pos rfl,sl]
     dsimp only
     rw [ey]
     dsimp only
     refine wpAny_bind (wpAny_isSame_ref_self (wpAny_bind (wpAny_pure ?_)))
     rw [if_pos rfl]
     dsimp only
     refine zbO (fun c2=>wpAny_pure (h1 (hin (of_decide_eq_true c2)) _ fun _=>rfl)) (fun c2=>?_)
     refine ih (m'+1) _ rfl (by lia) (by lia) fun q i2 hq hp=>?_
     by_cases cq:q<m
     ·exact vis q i2 cq hp
     by_cases cm:q=m'
     ·rw [cm] at hp
      rw [zeA R.ok hp a3,ek]
      exact fun z=>c2 (decide_eq_true (Option.some.inj z))
     ·exact noh q i2 hp (a6 q i2 (by lia) (by lia) hp)
   ·show wpAny _ _ (match probe.go t (fun i=>(es[i]?.map (·.1)).getD 0) (zav prog w k) (10*turns t.mask) (pth t.mask (zav prog w k) m) with | some met=>_ | x=>_) Q E s
    rw [a5]
    dsimp only
    refine wpAny_pure (h2 (fun hin=>?_) N n2 n3 n4)
    obtain ⟨i,hi,hk⟩:=List.mem_iff_getElem.mp hin
    have ek:ks[i]?=some k:=by rw [List.getElem?_eq_some_iff];exact ⟨hi,hk⟩
    obtain ⟨e,he,hr,_⟩:=zgI prs ek
    have pl:i<t.place.size:=by rw [R.ok.sz,hlen,<- hlk];exact hi
    obtain ⟨n,g1,g2⟩:=R.rch i t.place[i] (zav prog w k) (by simp [pl]) (by rw [List.getElem?_map,he];show some e.1=_;rw [hr])
    have hn:n<N:=by
     rcases Nat.lt_or_ge n N with q | q
     ·exact q
     ·exfalso
      rcases Nat.eq_or_lt_of_le q with q | q
      ·rw [q,g1] at n2
       exact n2 (by simp)
      ·exact n2 (g2 N q)
    have pi:t.place[i]?=some (pth t.mask (zav prog w k) n).j:=by rw [g1];simp [pl]
    by_cases c:n<m
    ·exact vis n i c pi ek
    ·exact noh n i pi (a6 n i (by lia) hn pi) ek
 unfold setSearch
 exact go 100000 0 none rfl (Nat.zero_le _) (by lia) (fun q i h=>by lia)
end
structure RwSet (prog:Program) (w:World) (h:Heap) (a:Addr) (ps:List RP) : Prop where
 ex:∃ o es ep t,RwRaw prog w h a ps o es ep t
theorem zmC {t:SetTable}(hd:t.dummies = #[])(j:Nat) : t.put j=({ t with place:=insertAt t.place (below t.place j) j },below t.place j):=by
 unfold SetTable.put
 dsimp only
 have:has t.dummies j=false:=by rw [hd];simp [has]
 rw [this,hd]
 simp
theorem zfJ {α:Type}(l:List α)(p:Nat)(x:α)(hp:p<=l.length)(i:Nat) : (l.take p++x::l.drop p)[i]?=if i<p then l[i]? else if i=p then some x else l[i-1]?:=by
 by_cases c:i<p
 ·rw [if_pos c,List.getElem?_append_left (by rw [List.length_take];lia),List.getElem?_take_of_lt c]
 ·rw [if_neg c,List.getElem?_append_right (by rw [List.length_take];lia),List.length_take,Nat.min_eq_left hp]
  by_cases c2:i=p
  ·rw [if_pos c2,c2,Nat.sub_self];rfl
  ·rw [if_neg c2]
   obtain ⟨d,e⟩ : ∃ d,i-p=d+1:=⟨i-p-1,by lia⟩
   rw [e,List.getElem?_cons_succ,List.getElem?_drop]
   congr 1;lia
theorem zl0 {t:SetTable}{hs:List Int}{x:Int}{N:Nat}(ok:TOk t hs.length)(R:Rch t hs)(n2:(pth t.mask x N).j∉t.place.toList)(n4:∀ m,m<N->(pth t.mask x m).j∈t.place.toList) :
  Rch { t with place:=insertAt t.place (below t.place (pth t.mask x N).j) (pth t.mask x N).j } (hs.take (below t.place (pth t.mask x N).j)++x::hs.drop (below t.place (pth t.mask x N).j)):=by
 have hb:below t.place (pth t.mask x N).j<=hs.length:=by
  rw [zdd ok.rise]
  have:=zhD t.place.toList (pth t.mask x N).j
  rw [Array.length_toList,ok.sz] at this
  exact this
 have hb':below t.place (pth t.mask x N).j<=t.place.toList.length:=by rw [Array.length_toList,ok.sz];exact hb
 have more:∀ j,j∈t.place.toList->j∈(insertAt t.place (below t.place (pth t.mask x N).j) (pth t.mask x N).j).toList:=by
  intro j hj
  rw [toList_insertAt]
  rw [<- List.take_append_drop (below t.place (pth t.mask x N).j) t.place.toList] at hj
  rcases List.mem_append.mp hj with q | q
  ·exact List.mem_append_left _ q
  ·exact List.mem_append_right _ (List.mem_cons_of_mem _ q)
 intro i j y hp hy
 have hp:(insertAt t.place (below t.place (pth t.mask x N).j) (pth t.mask x N).j).toList[i]?=some j:=hp
 rw [toList_insertAt,zfJ _ _ _ hb'] at hp
 rw [zfJ _ _ _ hb] at hy
 by_cases c:i<below t.place (pth t.mask x N).j
 ·rw [if_pos c] at hp hy
  obtain ⟨n,g1,g2⟩:=R i j y hp hy
  exact ⟨n,g1,fun m hm=>more _ (g2 m hm)⟩
 ·rw [if_neg c] at hp hy
  by_cases c2:i=below t.place (pth t.mask x N).j
  ·rw [if_pos c2] at hp hy
   cases hp
   cases hy
   exact ⟨N,rfl,fun m hm=>more _ (n4 m hm)⟩
  ·rw [if_neg c2] at hp hy
   obtain ⟨n,g1,g2⟩:=R (i-1) j y hp hy
   exact ⟨n,g1,fun m hm=>more _ (g2 m hm)⟩
theorem zkR {t:SetTable}{n j:Nat}(ok:TOk t n)(hj:j∉t.place.toList)(hm:j<=t.mask) : (insertAt t.place (below t.place j) j).size=n+1/\Rise (insertAt t.place (below t.place j) j).toList/\∀ y∈(insertAt t.place (below t.place j) j).toList,y<=t.mask:=by
 refine ⟨?_,zeB ok.rise hj,fun y hy=>?_⟩
 ·have:=(PySem.SetTable.insertAt_perm t.place (below t.place j) j).length_eq
  rw [Array.length_toList,Array.length_toList,Array.size_push,ok.sz] at this
  exact this
 ·rw [toList_insertAt] at hy
  rcases List.mem_append.mp hy with z | z
  ·exact ok.inn y (List.mem_of_mem_take z)
  ·rcases List.mem_cons.mp z with z | z
   ·rw [z];exact hm
   ·exact ok.inn y (List.mem_of_mem_drop z)
theorem za3 {α β:Type}{R S:α->β->Prop}{xs:List α}{ys:List β}(h:Paired R xs ys)(f:∀ x y,R x y->S x y) : Paired S xs ys:=by
 induction h with
 | nil=>exact .nil
 | cons r _ ih=>exact .cons (f _ _ r) ih
section
variable {prog:Program}{w:World}{A:Around}{E:Value->Shared->Prop}{s:Shared}{a x:Addr}{ps:List RP}{k:List Int}
theorem ElemR.keeps {h h':Heap}{a:Addr}{o:Obj}{es:List (Int×Value)}{ps:List RP}(p:Paired (ElemR prog w h) es ps)(ho:h.get? a=some o)(hx:o.ExactSet)(hs:Heap.SameBut a h h') : Paired (ElemR prog w h') es ps :=
 za3 p fun e q ⟨h1,h2,h3⟩=>⟨h1,h2,IsRow.keeps h3 fun o' ho' hc=>by
  have ne:q.2≠a:=fun e=>by
   rw [e,ho] at ho'
   cases ho'
   have:=hx.1
   rw [hc] at this
   injection this with q
   exact absurd q (by decide)
  rw [hs.2 q.2 ne];exact ho'⟩
theorem zhr {Q:Unit->Shared->Prop}{o:Obj}{es:Array (Int×Value)}{ep:Nat}{t:SetTable}{wanted:Nat}(ho:s.heap.get? a=some o)(hx:o.ExactSet)(hd:o.data=.set es ep t)(hf:t.fits es.size=true)(hp:t.plain=true)(prs:Paired (ElemR prog w s.heap) es.toList ps)(nd:(ps.map (·.1)).Nodup)(hled:byTx w=false->t.led=true)
  (hw:wanted<512) (hb:es.size*2<=wanted) (h:∀ h' ps',Heap.SameBut a s.heap h'->RwSet prog w h' a ps'->ps'.Perm ps->Q () { s with heap:=h' }) : wpAny (model prog w) A (setRelay a wanted) Q E s:=by
 obtain ⟨t',order,e,ok,hl,hperm⟩:=zf6 t hp (es.map (·.1)) hw (by rw [Array.size_map];exact hb)
 rw [Array.size_map] at ok hperm
 have sz2:(order.filterMap (es[·]?)).size=es.size:=by
  have:=(zbM es order hperm).length_eq
  rwa [Array.length_toList,Array.length_toList] at this
 unfold setRelay
 refine wpAny_bind (wpAny_setState_of ho hd hf ?_)
 dsimp only
 have sl : ¬ SetTable.sizeAbove wanted>sizeLine:=by
  obtain ⟨m,hm,em,_⟩:=zbn hw
  have:∀ m∈[8,16,32,64,128,256,512],m<=512:=by decide
  have:=this m hm
  have b:(512:Nat)<=sizeLine:=by decide
  lia
 refine zao sl ?_
 rw [e]
 refine wpAny_bind (zao (by rw [sz2];simp) (wpAny_pure ?_))
 have hz:(order.filterMap (es[·]?)).size<=sizeLine:=by
  rw [sz2];exact Nat.le_trans (show es.size<=512 by lia) (by decide)
 refine wpAny_storeSet_of ho hd ?_ hz
 have sb:=Heap.SameBut.update s.heap a (Obj.putSet (order.filterMap (es[·]?)) t')
 have hg:(s.heap.update a (Obj.putSet (order.filterMap (es[·]?)) t')).get? a=some { o with data:=.set (order.filterMap (es[·]?)) (ep+1) t' }:=by
  have e:=Heap.get?_update_self (Obj.putSet (order.filterMap (es[·]?)) t') ho (by rw [putSet_of _ t' hd];rfl)
  rwa [putSet_of _ t' hd] at e
 obtain ⟨ps',p1,p2⟩:=zfs (zbM es order hperm) prs
 exact h _ ps' sb ⟨_,_,_,_,hg,hx,rfl,ElemR.keeps p2 ho hx sb,(p1.map _).nodup_iff.mpr nd,by rw [sz2];exact ok,zdH e hperm,fun z=>by rw [hl];exact hled z⟩ p1
theorem ziT {Q:Bool->Shared->Prop}(hS:RwSet prog w s.heap a ps)(hu:A.units<cLine)(hx:IsRow prog w s.heap k x)(hb:ps.length+1<128)
  (h:∀ h' ps' b,Heap.SameBut a s.heap h'->RwSet prog w h' a ps'->(k∈ps.map (·.1)/\ps'=ps)\/(k∉ps.map (·.1)/\ps'.Perm ((k,x)::ps))->Q b { s with heap:=h' }) :
  wpAny (model prog w) A (setAddHashed a (.ref x) (zav prog w k)) Q E s:=by
 obtain ⟨o,es,ep,t,R⟩:=hS.ex
 have hlen:=R.len
 unfold setAddHashed setAddHashedIn
 refine wpAny_holding (wpAny_bind (wpAny_setState_of R.at' R.dat R.ok.fits ?_))
 dsimp only
 refine zao (by show ¬ ((false&&_&&_)=true);simp) ?_
 refine wpAny_bind (zgK (adding:=true) R hu hx (fun hin r _=>?_) (fun hout N n2 n3 n4=>?_))
 ·have:=h s.heap ps false (Heap.SameBut.refl a s.heap) hS (.inl ⟨hin,rfl⟩)
  cases s
  exact wpAny_pure this
 refine wpAny_bind (wpAny_setState_of R.at' R.dat R.ok.fits ?_)
 dsimp only
 rw [zmC R.ok.nod]
 dsimp only
 rw [R.ok.plain]
 refine wpAny_bind (zha hx ?_)
 simp only [if_true]
 let j:=(pth t.mask (zav prog w k) N).j
 let p:=below t.place j
 let t1:SetTable:={ t with place:=insertAt t.place p j,plain:=true }
 let es1:Array (Int×Value):=insertAt es p (zav prog w k,.ref x)
 obtain ⟨q5,q6,q7⟩:=zkR R.ok n2 n3
 have szI:es1.size=es.size+1:=by
  have:=(PySem.SetTable.insertAt_perm es p (zav prog w k,Value.ref x)).length_eq
  simpa using this
 have hz1:es1.size<=sizeLine:=by rw [szI];exact Nat.le_trans (show es.size+1<=512 by lia) (by decide)
 refine wpAny_bind (wpAny_storeSet_of R.at' R.dat ?_ hz1)
 have sb1:=Heap.SameBut.update s.heap a (Obj.putSet es1 t1)
 have hg:(s.heap.update a (Obj.putSet es1 t1)).get? a=some { o with data:=.set es1 (ep+1) t1 }:=by
  have e:=Heap.get?_update_self (Obj.putSet es1 t1) R.at' (by rw [putSet_of _ t1 R.dat];rfl)
  rwa [putSet_of _ t1 R.dat] at e
 have perm1:=PySem.SetTable.insertAt_perm es p (zav prog w k,Value.ref x)
 rw [Array.toList_push] at perm1
 obtain ⟨ks1,pn1,pp1⟩:=zfs perm1 (ss:=ps++[(k,x)]) (Paired.snoc R.prs ⟨rfl,rfl,hx⟩)
 have pn:ks1.Perm ((k,x)::ps):=pn1.trans (List.perm_append_comm (l₁:=ps) (l₂:=[(k,x)]))
 have nd1:(ks1.map (·.1)).Nodup:=(pn.map _).nodup_iff.mpr (List.nodup_cons.mpr ⟨hout,R.nd⟩)
 have pp1':=ElemR.keeps pp1 R.at' R.ex sb1
 have hb7:p<=es.toList.length:=by
  show below t.place j<=_
  rw [zdd R.ok.rise,Array.length_toList]
  have:=zhD t.place.toList j
  rw [Array.length_toList,R.ok.sz] at this
  exact this
 have rch1:Rch t1 (es1.toList.map (·.1)):=by
  have:=zl0 (hs:=es.toList.map (·.1)) (x:=zav prog w k) (N:=N) (by rw [List.length_map,Array.length_toList];exact R.ok) R.rch n2 n4
  have e:es1.toList.map (·.1)=(es.toList.map (·.1)).take p++zav prog w k::(es.toList.map (·.1)).drop p:=by
   show (insertAt es p (zav prog w k,Value.ref x)).toList.map (·.1)=_
   rw [toList_insertAt,List.map_append,List.map_cons,List.map_take,List.map_drop]
  rw [e]
  exact this
 by_cases full:t1.tooFull=true
 ·refine zbi (by show (!false&&t1.tooFull)=true;rw [full];rfl) ?_
  have hgw:grown (es.size+1)=(es.size+1)*4:=by unfold grown;rw [if_neg (by lia)]
  have fit1:t1.fits es1.size=true:=by
   have hm7:7<=t.mask:=by
    have all:∀ m∈zi6,8<=m:=by decide
    have:=all _ R.ok.msk
    lia
   have:=R.ok.room
   unfold SetTable.fits SetTable.fill
   show ((insertAt t.place p j).size == es1.size&&decide ((insertAt t.place p j).size+t.dummies.size<=t.mask))=true
   rw [q5,szI,R.ok.nod]
   simp
   lia
  refine wpAny_bind (zhr (wanted:=grown (es.size+1)) (s:={ s with heap:=s.heap.update a (Obj.putSet es1 t1) }) (ps:=ks1) hg R.ex rfl fit1 rfl pp1' nd1 R.led (by rw [hgw];lia) (by rw [hgw,szI];lia) fun h' ks' sb2 hS2 pm=>wpAny_pure ?_)
  exact h h' ks' _ (sb1.trans sb2) hS2 (.inr ⟨hout,pm.trans pn⟩)
 ·refine zao (by show ¬ (!false&&t1.tooFull)=true;simpa using full) ?_
  have ok1:TOk t1 es1.size:=by
   rw [szI]
   refine ⟨q5,q6,q7,R.ok.nod,rfl,R.ok.msk,?_⟩
   have z : ¬ (t1.fill*5 ≥ t1.mask*3):=fun z=>full (by unfold SetTable.tooFull;exact decide_eq_true z)
   have e0:t1.fill=es.size+1:=by
    show (insertAt t.place p j).size+t.dummies.size=_
    rw [q5,R.ok.nod];rfl
   rw [e0] at z
   show (es.size+1)*5<t.mask*3
   have e1:t1.mask=t.mask:=rfl
   rw [e1] at z
   lia
  exact wpAny_pure (h _ ks1 _ sb1 ⟨_,_,_,_,hg,R.ex,rfl,pp1',nd1,ok1,rch1,R.led⟩ (.inr ⟨hout,pn⟩))
end
def RowV (prog:Program)(w:World)(h:Heap)(v:Value)(k:List Int) : Prop:=∃ b,v=.ref b/\IsRow prog w h k b
theorem rw_nd {prog:Program}{w:World}{h:Heap}{a:Addr}{ps:List RP}(x:RwSet prog w h a ps) : (ps.map (·.1)).Nodup:=let ⟨_,_,_,_,R⟩:=x.ex;R.nd
theorem RwSet.keeps {prog:Program}{w:World}{h h':Heap}{a:Addr}{ps:List RP}(x:RwSet prog w h a ps)(k:∀ o,h.get? a=some o->h'.get? a=some o)(kt:∀ b o,h.get? b=some o->o.cls=.type "tuple" -> h'.get? b=some o) : RwSet prog w h' a ps:=by
 obtain ⟨o,es,ep,t,R⟩:=x.ex
 exact ⟨o,es,ep,t,k _ R.at',R.ex,R.dat,za3 R.prs fun e q ⟨h1,h2,h3⟩=>⟨h1,h2,IsRow.keeps h3 fun o' ho' hc=>kt q.2 o' ho' hc⟩,R.nd,R.ok,R.rch,R.led⟩
theorem RowV.keeps {prog:Program}{w:World}{h h':Heap}{vs:List Value}{ks:List (List Int)}(x:Paired (RowV prog w h) vs ks)(kt:∀ b o,h.get? b=some o->o.cls=.type "tuple" -> h'.get? b=some o) : Paired (RowV prog w h') vs ks :=
 za3 x fun v k ⟨b,e,h3⟩=>⟨b,e,IsRow.keeps h3 fun o' ho' hc=>kt b o' ho' hc⟩
theorem zcJ {prog:Program}{w:World}(h:Heap) : RwSet prog w (h.push (zai (!byTx w))) h.objs.size [] :=
 ⟨_,#[],0,_,Heap.get?_push_size _ rfl,⟨rfl,rfl,rfl⟩,rfl,.nil,List.nodup_nil,zhO _,(fun i j x hp _=>by simp [SetTable.fresh] at hp),fun z=>by show (!byTx w)=true;rw [z];rfl⟩
theorem zg8:∀ {l r:List (List Int)},l.Nodup->(∀ y∈l,y∈r)->l.length<=r.length
 | [],_,_,_=>Nat.zero_le _
 | x::l,r,nd,h=>by
  obtain ⟨h1,h2⟩:=List.nodup_cons.mp nd
  have hx:x∈r:=h x List.mem_cons_self
  have:=zg8 (r:=r.erase x) h2 fun y hy=>(List.mem_erase_of_ne (show y≠x from fun e=>h1 (by rw [<- e];exact hy))).mpr (h y (List.mem_cons_of_mem _ hy))
  rw [List.length_erase_of_mem hx] at this
  have:=List.length_pos_of_mem hx
  rw [List.length_cons];lia
section
variable {prog:Program}{w:World}{A:Around}{E:Value->Shared->Prop}
theorem zjy {S I l:Addr}{items:Array Value}{vals g:List (List Int)}{R:Result->Shared->Prop}(hh:A.in1.handled=none)(hu:A.in1.units<cLine)(hg:∀ v∈vals,v∈g)(g64:g.length<126)(n1:S≠I)(n2:S≠l)(n3:l≠I) :
  ∀ (k i:Nat) (s:Shared) (ms:List RP),items.size-i=k->i<=items.size->s.heap.IsListIter I l i->s.heap.IsList l items->Paired (RowV prog w s.heap) items.toList vals->(∀ o,s.heap.get? I=some o->o.cls≠.type "tuple")->RwSet prog w s.heap S ms->(∀ x,x∈ms.map (·.1)↔x∈vals.take i)->(∀ p∈ms,Value.ref p.2∈items.toList) ->
   (∀ h' tk ms',(∀ b o,b≠S->b≠I->s.heap.get? b=some o->h'.get? b=some o)->RwSet prog w h' S ms'->(∀ x,x∈ms'.map (·.1)↔x∈vals)->(∀ p∈ms',Value.ref p.2∈items.toList)->R (.ok (.ret .none)) { s with heap:=h',toks:=tk }) ->
   codeAny (model prog w) A (.builtin "set.update.loop" ⟨[.ref S,.ref I],[]⟩) R s:=by
 intro k
 induction k with
 | zero =>
  intro i s ms hk hle st hl hi nI hS mem orig hR
  have hlen:items.size=vals.length:=by rw [<- Array.length_toList];exact zdv hi
  have hin:i=items.size:=by lia
  subst hin
  refine codeAny_builtin F.entry_set_update_loop ?_;rw [Around.under_plainId F.plain_set_update_loop _]
  show wpAny _ A.in1 (pyNext (.ref I) >>= _) _ _ s
  refine wpAny_bind (wpAny_pyNext_list_end hh st hl (by simp) fun h' eb=>?_)
  show wpAny _ A.in1 (ret Value.none) _ _ _
  refine wpAny_pure (hR h' s.toks ms (fun b o _ hb e=>eb b o hb e) (hS.keeps (fun o e=>eb _ _ n1 e) fun b o e hc=>eb b o (fun z=>nI o (z ▸ e) hc) e) (fun x=>?_) orig)
  rw [mem,hlen,List.take_length]
 | succ k ih =>
  intro i s ms hk hle st hl hi nI hS mem orig hR
  have hlen:items.size=vals.length:=by rw [<- Array.length_toList];exact zdv hi
  have hlt:i<items.size:=by lia
  refine codeAny_builtin F.entry_set_update_loop ?_;rw [Around.under_plainId F.plain_set_update_loop _]
  show wpAny _ A.in1 (pyNext (.ref I) >>= _) _ _ s
  have hx:items[i]?=some items[i]:=by simp [hlt]
  refine wpAny_bind (wpAny_pyNext_list_item st hl hx fun h' st' sb=>?_)
  have hv:i<vals.length:=by lia
  obtain ⟨kk,ek,b,eb,rb⟩:=zkP hi (i:=i) (x:=items[i]) (by simp [hlt])
  have ekk:kk=vals[i]:=by
   rw [List.getElem?_eq_getElem hv] at ek
   exact (Option.some.inj ek).symm
  subst ekk
  rw [eb]
  have kt1:∀ b o,s.heap.get? b=some o->o.cls=.type "tuple" -> h'.get? b=some o:=fun b o e hc=>(sb.2 b fun z=>nI o (z ▸ e) hc).trans e
  show wpAny _ A.in1 (holding [Value.ref b] (setAdd S (.ref b)) >>= _) _ _ _
  refine wpAny_bind (wpAny_holding ?_);unfold setAdd;refine wpAny_holding ?_
  have rb':IsRow prog w h' vals[i] b:=rb.keeps fun o e hc=>kt1 b o e hc
  refine wpAny_bind (wpAny_pyHash_tuple (s:={ s with heap:=h' }) hu rb' ?_)
  have hS':RwSet prog w h' S ms:=hS.keeps (fun o e=>(sb.2 _ n1).trans e) kt1
  have lms:ms.length<=g.length:=by
   have:=zg8 (rw_nd hS') fun x hx=>hg x (List.mem_of_mem_take ((mem x).mp hx))
   rwa [List.length_map] at this
  refine ziT (s:={ s with heap:=h',toks:=s.toks+(vals[i].length+1) }) hS' hu rb' (by lia) fun h2 ms2 bb sb2 hS2 alt=>?_
  have nS:∀ o,h'.get? S=some o->o.cls≠.type "tuple" := fun o e hc=>by
   obtain ⟨o2,_,_,_,R2⟩:=hS'.ex
   rw [R2.at'] at e
   cases e
   have:=R2.ex.1
   rw [hc] at this
   injection this with q
   exact absurd q (by decide)
  have kt2:∀ b o,h'.get? b=some o->o.cls=.type "tuple" -> h2.get? b=some o:=fun b o e hc=>(sb2.2 b fun z=>nS o (z ▸ e) hc).trans e
  obtain ⟨oI,hoI,hcI,_⟩:=id st'
  have nI2:∀ o,h2.get? I=some o->o.cls≠.type "tuple" := fun o e hc=>by
   rw [sb2.2 _ n1.symm,hoI] at e
   cases e
   rw [hcI] at hc
   injection hc with q
   exact absurd q (by decide)
  refine wpAny_pure ⟨plainId_quiet F.plain_set_update_loop _,ih (i+1) _ ms2 (by lia) hlt (st'.at fun o e=>(sb2.2 _ n1.symm).trans e) (hl.at fun o e=>(sb2.2 _ n2.symm).trans ((sb.2 _ n3).trans e)) (RowV.keeps (RowV.keeps hi kt1) kt2) nI2 hS2 (fun x=>?_) (fun p hp=>?_) fun h3 tk3 ms3 k3 hS3 mem3 or3=>?_⟩
  ·rw [List.take_add_one,List.getElem?_eq_getElem hv,List.mem_append]
   have:(some vals[i]).toList=[vals[i]]:=rfl
   rw [this,List.mem_singleton,<- mem x]
   rcases alt with ⟨i1,rfl⟩ | ⟨i1,i2⟩
   ·constructor
    ·exact .inl
    ·rintro (z | z)
     ·exact z
     ·rw [z];exact i1
   ·rw [(i2.map (·.1)).mem_iff,List.map_cons,List.mem_cons];exact Or.comm
  ·rcases alt with ⟨_,rfl⟩ | ⟨_,i2⟩
   ·exact orig p hp
   ·rcases List.mem_cons.mp (i2.mem_iff.mp hp) with rfl | hp
    ·show Value.ref b∈_
     rw [<- eb];simp
    ·exact orig p hp
  ·exact hR h3 tk3 ms3 (fun b o b1 b2 e=>k3 b o b1 b2 ((sb2.2 b b1).trans ((sb.2 b b2).trans e))) hS3 mem3 or3
end
section
variable {prog:Program}{w:World}{A:Around}{E:Value->Shared->Prop}{s:Shared}
theorem zg7 {l:Addr}{items:Array Value}{vals g:List (List Int)}{Q:Value->Shared->Prop}(hh:A.handled=none)(hu:A.in1.in1.in1.units<cLine)(hl:s.heap.IsList l items)(hi:Paired (RowV prog w s.heap) items.toList vals)(hg:∀ v∈vals,v∈g)(g64:g.length<126)
  (h:∀ h' tk ms,(∀ b o,s.heap.get? b=some o->h'.get? b=some o)->RwSet prog w h' s.heap.objs.size ms->(∀ x,x∈ms.map (·.1)↔x∈vals)->(∀ p∈ms,Value.ref p.2∈items.toList)->Q (.ref s.heap.objs.size) { s with heap:=h',toks:=tk }) :
  wpAny (model prog w) A (call (.type "set") [.ref l]) Q E s:=by
 obtain ⟨ol,hol,hcl,nl,hdl⟩:=id hl
 have hll:l<s.heap.objs.size:=Heap.lt_size hol
 refine zhl ?_
 have hl1:(s.heap.push (zai (!byTx w))).IsList l items:=hl.push _
 unfold Builtin.Frozenset.updateFrom
 have hT:Shared.TypeIs { s with heap:=s.heap.push (zai (!byTx w)) } (.ref l) "list" := ⟨ol,Heap.get?_push_of_some _ hol,hcl⟩
 refine wpAny_bind (znx hT F.sub_list_set F.sub_list_frozenset (zao (by decide) ?_))
 refine wpAny_bind (wpAny_typeOf hT (zao (by decide) ?_))
 refine wpAny_bind (wpAny_pyIter_list (s:={ s with heap:=s.heap.push (zai (!byTx w)) }) hl1 ?_)
 have sz:(s.heap.push (zai (!byTx w))).objs.size=s.heap.objs.size+1:=Heap.size_push ..
 refine wpAny_bind (wpAny_runValue ?_)
 have kp:∀ (o':Obj) b o,s.heap.get? b=some o->((s.heap.push (zai (!byTx w))).push o').get? b=some o:=fun o' b o e=>Heap.get?_push_of_some _ (Heap.get?_push_of_some _ e)
 refine zjy (A:=A.in1.in1) (g:=g) (vals:=vals) (by simpa using hh) hu hg g64 (I:=(s.heap.push (zai (!byTx w))).objs.size) (l:=l) (by rw [sz];exact Nat.ne_of_lt (Nat.lt_succ_self _)) (Nat.ne_of_gt hll) (by rw [sz];exact Nat.ne_of_lt (Nat.lt_succ_of_lt hll)) items.size 0 _ [] (by lia) (Nat.zero_le _) ⟨_,Heap.get?_push_size _ rfl,rfl,rfl⟩ (hl1.push _) (RowV.keeps hi fun b o e _=>kp _ b o e) (fun o e hc=>?_) ((zcJ s.heap).keeps (fun o e=>Heap.get?_push_of_some _ e) fun b o e _=>Heap.get?_push_of_some _ e) (fun x=>by simp) (fun p hp=>nomatch hp) fun h' tk ms k hS mem or3=>?_
 ·rw [Heap.get?_push_size _ rfl] at e
  cases e
  injection hc with q
  exact absurd q (by decide)
 ·obtain ⟨oS,eS,pS,tS,RS⟩:=hS.ex
  refine wpAny_pure ⟨⟨oS,RS.at',RS.ex.1⟩,h h' tk ms (fun b o e=>k b o (Nat.ne_of_lt (Heap.lt_size e)) (by rw [sz];exact Nat.ne_of_lt (Nat.lt_succ_of_lt (Heap.lt_size e))) (kp _ b o e)) hS mem or3⟩
end
structure WOk (t:SetTable) (n:Nat) : Prop where
 fits:t.fits n=true
 sz:t.place.size=n
 rise:Rise t.place.toList
 plain:t.plain=true
theorem TOk.w {t:SetTable}{n:Nat}(h:TOk t n) : WOk t n:=⟨h.fits,h.sz,h.rise,h.plain⟩
structure GSet (w:World) (h:Heap) (a:Addr) (o:Obj) (es:Array (Int×Value)) (ep:Nat) (t:SetTable) : Prop where
 at':h.get? a=some o
 ex:o.ExactSet
 dat:o.data=.set es ep t
 ok:WOk t es.size
 led:byTx w=false->t.led=true
theorem RwRaw.g {prog:Program}{w:World}{h:Heap}{a:Addr}{ps:List RP}{o:Obj}{es:Array (Int×Value)}{ep:Nat}{t:SetTable}(R:RwRaw prog w h a ps o es ep t) : GSet w h a o es ep t:=⟨R.at',R.ex,R.dat,R.ok.w,R.led⟩
section
variable {prog:Program}{w:World}{A:Around}{E:Value->Shared->Prop}{s:Shared}
theorem GSet.state {a:Addr}{o:Obj}{es:Array (Int×Value)}{ep:Nat}{t:SetTable}{Q:(Array (Int×Value)×Nat×SetTable)->Shared->Prop}(x:GSet w s.heap a o es ep t)(h:Q (es,ep,t) s) : wpAny (model prog w) A (setState a) Q E s:=wpAny_setState_of x.at' x.dat x.ok.fits h
structure GSt (w:World) (h:Heap) (it a:Addr) (o:Obj) (es:Array (Int×Value)) (ep:Nat) (t:SetTable) (i:Nat) : Prop where
 ex:∃ slot,zmp h it a slot i es.size ep/\(byTx w=false->cnt t.place.toList slot=i)
 rs:GSet w h a o es ep t
theorem zgx {a:Addr}{o:Obj}{es:Array (Int×Value)}{ep:Nat}{t:SetTable}(R:GSet w s.heap a o es ep t){slot i:Nat}(hs:byTx w=false->cnt t.place.toList slot=i){Q:Option (Value×Nat)->Shared->Prop}
  (h1:∀ v next,((walked w a es ep)[i]?).map (·.2)=some v->(byTx w=false->cnt t.place.toList next=i+1)->Q (some (v,next)) s) (h2:es.size<=i->Q none s) : wpAny (model prog w) A (setNext a slot i ep) Q E s:=by
 unfold setNext setsByText
 refine wpAny_bind (R.state ?_);dsimp only
 refine wpAny_bind (wpAny_bind (wpAny_askSetting (wpAny_pure ?_)))
 cases hb:byTx w with
 | true =>
  refine zbi hb ?_
  refine zao (by simp) ?_
  have wk:wpAny (model prog w) A (setWalk a) (fun es' s'=>s'=s/\es'=walked w a es ep) E s:=by
   unfold setWalk setsByText
   refine wpAny_bind (R.state ?_);dsimp only
   refine wpAny_bind (wpAny_bind (wpAny_askSetting (wpAny_pure (zbi hb ?_))))
   refine wpAny_bind (wpAny_askSetting (wpAny_pure ⟨rfl,?_⟩))
   unfold walked
   rw [if_pos hb]
   rfl
  refine wpAny_bind (wpAny_mono wk (fun es' s' ⟨e1,e2⟩=>?_) fun _ _ z=>z)
  subst e1 e2
  refine wpAny_pure ?_
  cases q:(walked w a es ep)[i]? with
  | none =>
   refine h2 ?_
   have z:(walked w a es ep).size<=i:=by simpa using q
   have y:=(zbL w a es ep).length_eq
   rw [Array.length_toList,Array.length_toList] at y
   lia
  | some x=>exact h1 x.2 slot (by rw [q];rfl) fun z=>by rw [hb] at z;cases z
 | false =>
  refine zao (by show ¬ (byTx w=true);rw [hb];decide) ?_
  refine zao (c:=((!t.plain&&decide (es.size>1))=true)) (by rw [R.ok.plain];simp) ?_
  refine wpAny_bind (zao (c:=((!t.led && !es.isEmpty)=true)) (by rw [R.led hb];simp) (wpAny_pure ?_))
  have ew:walked w a es ep=es:=by unfold walked;rw [if_neg (by rw [hb];decide)]
  have eb:below t.place slot=i:=by rw [zdd R.ok.rise];exact hs hb
  rw [eb]
  refine wpAny_pure ?_
  by_cases hi:i<es.size
  ·have hi2:i<t.place.size:=by rw [R.ok.sz];exact hi
   have e1:es[i]?=some es[i]:=by simp [hi]
   have e2:t.place[i]?=some t.place[i]:=by simp [hi2]
   rw [e1,e2]
   refine h1 es[i].2 (t.place[i]+1) (by rw [ew,e1];rfl) fun _=>?_
   have:=zmH R.ok.rise (i:=i) (by simpa using hi2)
   simpa using this
  ·have e1:es[i]?=none:=by simp;lia
   rw [e1]
   exact h2 (by lia)
theorem zju {it a:Addr}{o:Obj}{es:Array (Int×Value)}{ep:Nat}{t:SetTable}{i:Nat}{Q:Option Value->Shared->Prop}(hne:a≠it)(st:GSt w s.heap it a o es ep t i)(hi:i<es.size)
  (hQ:∀ v h',((walked w a es ep)[i]?).map (·.2)=some v->GSt w h' it a o es ep t (i+1)->Heap.SameBut it s.heap h'->Q (some v) { s with heap:=h' }) : wpAny (model prog w) A (pyNext (.ref it)) Q E s:=by
 obtain ⟨⟨slot,hit,hsl⟩,R⟩:=st
 obtain ⟨oi,ho,hc,hd⟩:=id hit
 have hT:s.TypeIs (.ref it) "set_iterator" := ⟨oi,ho,hc⟩
 unfold pyNext
 refine wpAny_bind (wpAny_attempt (wpAny_callSpecial?_slot (name:=Str.ofString "__next__") hT zaO (wpAny_call_entry zaO hT zcz ?_ (zc4 _))))
 unfold Builtin.«set_iterator.__next__»
 refine wpAny_bind (wpAny_pure ?_);dsimp only
 refine wpAny_bind (wpAny_fieldsOf ho hd ?_)
 show wpAny _ _ (setEntries a >>= _) _ _ _
 refine wpAny_bind (wpAny_setEntries_of R.at' R.dat R.ok.fits ?_)
 refine zao (by simp) ?_
 show wpAny _ _ (setNext a slot i ep >>= _) _ _ _
 refine wpAny_bind (zgx R hsl (fun v next hv hn=>?_) fun z=>absurd z (by lia))
 dsimp only
 refine wpAny_bind (wpAny_setField ho hd (by simp) ?_)
 have hg1:(s.heap.update it (Obj.mapFields (·.setIfInBounds 0 (rawInt next)))).get? it=some (Obj.mapFields (·.setIfInBounds 0 (rawInt next)) oi):=Heap.get?_update_self _ ho (Obj.isFreed_of_fields (Obj.data_mapFields hd _))
 have hd1:=Obj.data_mapFields hd (fun x:Array Value=>x.setIfInBounds 0 (rawInt next))
 refine wpAny_bind (wpAny_setField (s:={ s with heap:=s.heap.update it (Obj.mapFields (·.setIfInBounds 0 (rawInt next))) }) hg1 hd1 (by simp) ?_)
 have sb:Heap.SameBut it s.heap ((s.heap.update it (Obj.mapFields (·.setIfInBounds 0 (rawInt next)))).update it (Obj.mapFields (·.setIfInBounds 1 (rawInt ((i:Int)+1))))):=(Heap.SameBut.update ..).trans (Heap.SameBut.update ..)
 have hg2:=Heap.get?_update_self (Obj.mapFields (·.setIfInBounds 1 (rawInt ((i:Int)+1)))) hg1 (Obj.isFreed_of_fields (Obj.data_mapFields hd1 _))
 refine wpAny_pure ⟨_,rfl,wpAny_pure (hQ v _ hv ⟨⟨next,⟨_,hg2,(Obj.cls_mapFields ..).trans ((Obj.cls_mapFields ..).trans hc),?_⟩,hn⟩,⟨(sb.2 a hne).trans R.at',R.ex,R.dat,R.ok,R.led⟩⟩ sb)⟩
 rw [Obj.data_mapFields hd1]
 simp [rawInt]
theorem zkW {it a:Addr}{o:Obj}{es:Array (Int×Value)}{ep:Nat}{t:SetTable}{Q:Option Value->Shared->Prop}(hh:A.handled=none)(st:GSt w s.heap it a o es ep t es.size)
  (hQ:∀ h',Heap.ExtBut it s.heap h'->Q none { s with heap:=h' }) : wpAny (model prog w) A (pyNext (.ref it)) Q E s:=by
 obtain ⟨⟨slot,hit,hsl⟩,R⟩:=st
 obtain ⟨oi,ho,hc,hd⟩:=id hit
 have hT:s.TypeIs (.ref it) "set_iterator" := ⟨oi,ho,hc⟩
 unfold pyNext
 refine wpAny_bind (wpAny_attempt (wpAny_callSpecial?_slot (name:=Str.ofString "__next__") hT zaO (wpAny_call_entry zaO hT zcz ?_ (zc4 _))))
 unfold Builtin.«set_iterator.__next__»
 refine wpAny_bind (wpAny_pure ?_);dsimp only
 refine wpAny_bind (wpAny_fieldsOf ho hd ?_)
 show wpAny _ _ (setEntries a >>= _) _ _ _
 refine wpAny_bind (wpAny_setEntries_of R.at' R.dat R.ok.fits ?_)
 refine zao (by simp) ?_
 show wpAny _ _ (setNext a slot es.size ep >>= _) _ _ _
 have wl:(walked w a es ep).size=es.size:=by
  have y:=(zbL w a es ep).length_eq
  rwa [Array.length_toList,Array.length_toList] at y
 refine wpAny_bind (zgx R hsl (fun v next hv hn=>?_) fun _=>?_)
 ·rw [Array.getElem?_eq_none (by lia)] at hv
  cases hv
 dsimp only
 refine wpAny_bind (wpAny_setField ho hd (by simp) ?_)
 refine wpAny_bind ?_
 simp only [newExc,newTuple]
 refine wpAny_bind (wpAny_newObj_type (wpAny_bind (m:=firstArgMember _ _) (wpAny_of_eq (a:=Value.none) (by first | rfl | (simp only [firstArgMember];rfl)) (wpAny_newObj_type ?_ (by size_fits)))) (by size_fits))
 simp only [raiseNew]
 refine wpAny_bind (wpAny_handled ?_);rw [show A.in1.handled=none from hh]
 refine wpAny_bind (wpAny_pure (wpAny_throw ?_));refine wpAny_bind (wpAny_isInstance (T := "StopIteration") (b:=true) ⟨_,Heap.get?_push_size _ rfl,rfl⟩ isSubtype_stop ?_)
 exact wpAny_pure (hQ _ (((Heap.SameBut.update ..).extBut.push _).push _))
theorem ziC (hh:A.handled=none)(it a:Addr)(hne:a≠it)(o:Obj)(es:Array (Int×Value))(ep:Nat)(t:SetTable) :
  Walks prog w A it [it,a] [it] es.size (fun i v=>((walked w a es ep)[i]?).map (·.2)=some v) (fun i h=>GSt w h it a o es ep t i) where
 sub:=fun b hb=>by simp at hb;simp [hb]
 frame:=fun i h h' st hk=>⟨let ⟨sl,x,y⟩:=st.ex;⟨sl,zjl x fun o e=>hk it (by simp) o e,y⟩,⟨hk a (by simp) _ st.rs.at',st.rs.ex,st.rs.dat,st.rs.ok,st.rs.led⟩⟩
 item:=fun i s Q E hi st hQ=>zju hne st hi fun v h' hv st' sb=>hQ v h' s.toks hv st' fun b o hb e=>(sb.2 b (fun z=>hb (by simp [z]))).trans e
 done:=fun s Q E st hQ=>zkW hh st fun h' he=>hQ h' s.toks fun b o hb e=>he b o (fun z=>hb (by simp [z])) e
 self:=fun i s Q E st hQ=>by
  obtain ⟨sl,⟨oi,ho,hc,hd⟩,_⟩:=st.ex
  have hT:s.TypeIs (.ref it) "set_iterator" := ⟨oi,ho,hc⟩
  refine wpAny_pyIter_slot hT zdf (wpAny_call_entry zdf hT (entryFor_alias (id' := "dict_keyiterator.__iter__") (by kernel_rfl) rfl (by decide +kernel) (by kernel_rfl) : entryFor table "set_iterator.__iter__" = some Builtin.«dict_keyiterator.__iter__») ?_ (by unfold argsOk;kernel_rfl))
  exact wpAny_pure ⟨_,rfl,"set_iterator", _,hT,zaO.lookup,hQ⟩
theorem ziZ {a:Addr}{o:Obj}{es:Array (Int×Value)}{ep:Nat}{t:SetTable}{Q:Value->Shared->Prop}(R:GSet w s.heap a o es ep t)
  (h:∀ oi,GSt w (s.heap.push oi) s.heap.objs.size a o es ep t 0->Q (.ref s.heap.objs.size) { s with heap:=s.heap.push oi }) : wpAny (model prog w) A (pyIter (.ref a)) Q E s:=by
 have hT:s.TypeIs (.ref a) "set" := ⟨o,R.at',R.ex.1⟩
 refine wpAny_pyIter_slot hT F.slot_set_iter (wpAny_call_entry F.slot_set_iter hT zed ?_ (F.args_set_iter_1 _))
 unfold Builtin.«frozenset.__iter__» Builtin.Frozenset.slot0 Builtin.Frozenset.sizeOf setDrawn setsByText
 refine wpAny_bind (wpAny_bind (wpAny_pure (wpAny_pure ?_)))
 refine wpAny_bind (wpAny_bind (wpAny_setEntries_of R.at' R.dat R.ok.fits (wpAny_pure ?_)))
 refine wpAny_bind (wpAny_bind (R.state (wpAny_bind (wpAny_bind (wpAny_askSetting (wpAny_pure (wpAny_pure ?_)))))))
 refine zao (c:=((!byTx w&&(!t.plain&&decide (es.size>1)))=true)) (by rw [R.ok.plain];simp) (wpAny_bind (wpAny_pure ?_))
 refine wpAny_bind (wpAny_setEpoch_of R.at' R.dat R.ok.fits ?_)
 simp only [newFields]
 refine wpAny_bind (wpAny_newObj_type ?_ (by size_fits))
 have hg:(s.heap.push { cls:=.type "set_iterator", data:=.fields #[rawInt 0,rawInt 0,.ref a,rawInt es.size,rawInt ep] }).get? s.heap.objs.size=some { cls:=.type "set_iterator", data:=.fields #[rawInt 0,rawInt 0,.ref a,rawInt es.size,rawInt ep] }:=Heap.get?_push_size _ rfl
 refine wpAny_pure ⟨_,rfl,"set_iterator", _,⟨_,hg,rfl⟩,zaO.lookup,h _ ⟨⟨0,⟨_,hg,rfl,rfl⟩,fun _=>?_⟩,⟨Heap.get?_push_of_some _ R.at',R.ex,R.dat,R.ok,R.led⟩⟩⟩
 unfold cnt
 simp
end
end Wr
namespace L2
open PySem PySem.Spec PyProof.Rows
section
variable {X:Cx}{pins:List (Addr×Obj)}{σ:St}{H:Hp}{s:Shared}
theorem zec (I:Inv X pins σ H s) : ∀ {ys:List V} {us:List Value} {ks:List (List Int)},Vals ys us->Paired (RowAt H) ys ks->(∀ k∈ks,k≠[])->KeysAt s.heap us ks
 | _,_,_,.nil,.nil,_=>.nil
 | _,_,_,.cons r t,.cons p q,ne=>by
  obtain ⟨a,e1,e2⟩:=p
  subst e1
  cases r
  exact .cons (zle I e2 (ne _ List.mem_cons_self)) (zec I t q fun k hk=>ne k (List.mem_cons_of_mem _ hk))
theorem zeu:∀ {ys:List V} {ks:List (List Int)},Paired (RowAt H) ys ks->ys.map (kfI H)=ks
 | _,_,.nil=>rfl
 | _,_,.cons r t=>by rw [List.map_cons,ze3 r,zeu t]
end
end L2
namespace Wr
open PySem PyProof.Rows
def leap:Bool->Keyed->Array Keyed->Nat->Nat->Nat->StateT SortSt Sem (Option Nat):=sortPriv% PySem.Builtin.gallop
def SS (κ:SortKind)(a:Array Keyed)(p:Array (Nat×Nat×Nat))(g:Nat) : SortSt:=SortSt.mk' κ a p g none
section
variable {prog:Program}{w:World}{A:Around}{E:Value->Shared->Prop}{s:Shared}
def Tells (prog:Program)(w:World)(A:Around)(s:Shared)(κ:SortKind)(key:Keyed->Int)(D:Keyed->Prop) : Prop :=
 ∀ x y,D x->D y->∀ Q:Bool->Shared->Prop,Q (decide (key x<key y)) s->wpAny (model prog w) A (keyLt' κ x.1 y.1) Q (fun _ _=>False) s
variable {κ:SortKind}{key:Keyed->Int}{D:Keyed->Prop}
theorem t_lt {x y:Keyed}{st:SortSt}{Q:Option Bool->SortSt->Prop}(T:Tells prog w A s κ key D)(hk:kindOf st=κ)(hx:D x)(hy:D y)(h:Q (some (decide (key x<key y))) st) : wpS (model prog w) A E s (lt' x y) Q st:=by
 rw [lt'_eq]
 refine wpS_bind (wpS_get ?_)
 rw [hk]
 refine wpS_bind (wpS_lift (wpAny_attempt (wpAny_mono (T x y hx hy (fun b s'=>b=decide (key x<key y)/\s'=s) ⟨rfl,rfl⟩) (fun b s' hb=>?_) fun _ _ z=>z.elim)))
 obtain ⟨rfl,rfl⟩:=hb
 exact ⟨rfl,wpS_pure h⟩
theorem zaI {arr:Array Keyed}{i:Nat}{x:Keyed}{st:SortSt}{Q:Keyed->SortSt->Prop}(he:arr[i]?=some x)(h:Q x st) : wpS (model prog w) A E s (elem' arr i) Q st:=by
 rw [elem'_eq,he]
 exact wpS_pure h
def bey (key:Keyed->Int)(l:Bool)(k:Keyed)(x:Keyed) : Bool:=if l then decide (key x<key k) else !decide (key k<key x)
theorem ze0 {l:Bool}{k:Keyed}{arr:Array Keyed}{b n h:Nat}{st:SortSt}{Q:Option Nat->SortSt->Prop}(T:Tells prog w A s κ key D)(hk:kindOf st=κ)(Dk:D k)(f:Nat->Keyed)(ef:∀ i,i<n->arr[b+i]?=some (f i)/\D (f i))(hh:h<n)
  (mono:∀ i j,i<=j->j<n->key (f i)<=key (f j))
  (hq:∀ m,m<=n->(∀ i,i<m->bey key l k (f i)=true)->(∀ i,m<=i->i<n->bey key l k (f i)=false)->Q (some m) st) :
  wpS (model prog w) A E s (leap l k arr b n h) Q st:=by
 have down:∀ i j,i<=j->j<n->bey key l k (f j)=true->bey key l k (f i)=true:=by
  intro i j hij hj hb
  have:=mono i j hij hj
  unfold bey at hb ⊢
  cases l with
  | true =>
   simp only [if_true,decide_eq_true_eq] at hb ⊢
   omega
  | false =>
   simp only [Bool.false_eq_true,if_false,Bool.not_eq_true',decide_eq_false_iff_not] at hb ⊢
   omega
 have up:∀ i j,i<=j->j<n->bey key l k (f i)=false->bey key l k (f j)=false:=by
  intro i j hij hj hb
  cases e:bey key l k (f j) with
  | false=>rfl
  | true=>rw [down i j hij hj e] at hb;cases hb
 have ask:∀ (i:Nat) (R:Option Bool->SortSt->Prop),i<n->R (some (bey key l k (f i))) st->wpS (model prog w) A E s (do
   let x <- elem' arr (b+i)
   if l=true then lt' x k else do
    let c <- lt' k x
    pure (Option.map (fun x=>!x) c)) R st:=by
  intro i R hi hR
  obtain ⟨e1,d1⟩:=ef i hi
  refine wpS_bind (zaI e1 ?_)
  unfold bey at hR
  cases l with
  | true=>exact t_lt T hk d1 Dk hR
  | false=>exact wpS_bind (t_lt T hk Dk d1 (wpS_pure hR))
 have bin : ∀ (lo hi : Nat) (R : Option (Option Nat) × Nat × Nat → SortSt → Prop), lo ≤ hi → hi ≤ n → (∀ i, i < lo → bey key l k (f i) = true) → (∀ i, hi ≤ i → i < n → bey key l k (f i) = false) →
   (∀ lo' m,m<=n->(∀ i,i<m->bey key l k (f i)=true)->(∀ i,m<=i->i<n->bey key l k (f i)=false)->R (none,lo',m) st) ->
   wpS (model prog w) A E s (forIn [:n] ((none,lo,hi) : Option (Option Nat)×Nat×Nat) fun x r=>if r.2.1 ≥ r.2.2 then pure (ForInStep.done (none,r.2.1,r.2.2)) else do
    let c <- (do
     let x <- elem' arr (b+(r.2.1+(r.2.2-r.2.1) / 2))
     if l=true then lt' x k else do
      let c <- lt' k x
      pure (Option.map (fun x=>!x) c))
    match c with
    | some more=>if more=true then pure (ForInStep.yield (none,r.2.1+(r.2.2-r.2.1) / 2+1,r.2.2)) else pure (ForInStep.yield (none,r.2.1,r.2.1+(r.2.2-r.2.1) / 2))
    | x=>pure (ForInStep.done (some none,r.2.1,r.2.2))) R st:=by
  intro lo hi R h1 h2 h3 h4 hR
  refine wpS_forRange (I:=fun x c st'=>∃ lo' hi',st'=st/\c=(none,lo',hi')/\lo'<=hi'/\hi'<=n/\(∀ i,i<lo'->bey key l k (f i)=true)/\(∀ i,hi'<=i->i<n->bey key l k (f i)=false)/\hi' - lo'<=n-x) ?step ?fin ⟨lo,hi,rfl,rfl,h1,h2,h3,h4,by omega⟩
  case fin =>
   rintro c st' ⟨lo',hi',rfl,rfl,q1,q2,q3,q4,q5⟩
   have:lo'=hi':=by omega
   subst this
   exact hR _ _ q2 q3 q4
  case step =>
   rintro x c st' _ hx ⟨lo',hi',rfl,rfl,q1,q2,q3,q4,q5⟩
   dsimp only
   by_cases hge:lo' ≥ hi'
   ·rw [if_pos hge]
    have:lo'=hi':=by omega
    subst this
    exact wpS_pure (hR _ _ q2 q3 q4)
   ·rw [if_neg hge]
    have hm:lo'+(hi' - lo') / 2<hi':=by omega
    refine wpS_bind (ask _ _ (by omega) ?_)
    dsimp only
    cases e:bey key l k (f (lo'+(hi' - lo') / 2)) with
    | true =>
     rw [if_pos rfl]
     exact wpS_pure ⟨_,_,rfl,rfl,by omega,q2,fun i hi=>down i _ (by omega) (by omega) e,q4,by omega⟩
    | false =>
     rw [if_neg (by simp)]
     exact wpS_pure ⟨_,_,rfl,rfl,by omega,by omega,q3,fun i hi hn=>up _ i hi hn e,by omega⟩
 unfold leap
 refine wpS_bind (ask h _ hh ?_)
 dsimp only
 have last : ∀ (lo hi : Nat), lo ≤ hi → hi ≤ n → (∀ i, i < lo → bey key l k (f i) = true) → (∀ i, hi ≤ i → i < n → bey key l k (f i) = false) → ∀ (G : Option (Option Nat) × Nat × Nat → StateT SortSt Sem (Option Nat)), (∀ lo' m, G (none, lo', m) = pure (some m)) → wpS (model prog w) A E s (do
   let r <- forIn [:n] ((none,lo,hi) : Option (Option Nat)×Nat×Nat) fun x r=>if r.2.1 ≥ r.2.2 then pure (ForInStep.done (none,r.2.1,r.2.2)) else do
    let c <- (do
     let x <- elem' arr (b+(r.2.1+(r.2.2-r.2.1) / 2))
     if l=true then lt' x k else do
      let c <- lt' k x
      pure (Option.map (fun x=>!x) c))
    match c with
    | some more=>if more=true then pure (ForInStep.yield (none,r.2.1+(r.2.2-r.2.1) / 2+1,r.2.2)) else pure (ForInStep.yield (none,r.2.1,r.2.1+(r.2.2-r.2.1) / 2))
    | x=>pure (ForInStep.done (some none,r.2.1,r.2.2))
   G r) Q st:=by
  intro lo hi h1 h2 h3 h4 G hG
  refine wpS_bind (bin lo hi _ h1 h2 h3 h4 fun lo' m m1 m2 m3=>?_)
  rw [hG]
  exact wpS_pure (hq m m1 m2 m3)
 cases e:bey key l k (f h) with
 | true =>
  rw [if_pos rfl]
  refine wpS_bind (wpS_forRange (I:=fun x c st'=>∃ la o,st'=st/\c=(none,la,o)/\la<o/\x+1<=o/\h+la<n/\bey key l k (f (h+la))=true)
   (Q:=fun c st'=>∃ la o,st'=st/\c=(none,la,o)/\la<o/\h+la<n/\bey key l k (f (h+la))=true/\(n-h<=o\/(h+o<n/\bey key l k (f (h+o))=false))) ?step ?fin ⟨0,1,rfl,rfl,by omega,by omega,by omega,e⟩ |> (wpS_mono · ?post))
  case fin =>
   rintro c st' ⟨la,o,rfl,rfl,q1,q2,q3,q4⟩
   exact ⟨la,o,rfl,rfl,q1,q3,q4,.inl (by omega)⟩
  case step =>
   rintro x c st' _ hx ⟨la,o,rfl,rfl,q1,q2,q3,q4⟩
   dsimp only
   by_cases hge:o ≥ n-h
   ·rw [if_pos hge]
    exact wpS_pure ⟨la,o,rfl,rfl,q1,q3,q4,.inl hge⟩
   ·rw [if_neg hge]
    refine wpS_bind (ask (h+o) _ (by omega) ?_)
    dsimp only
    cases e2:bey key l k (f (h+o)) with
    | true =>
     rw [if_neg (by simp)]
     exact wpS_pure ⟨o,2*o+1,rfl,rfl,by omega,by omega,by omega,e2⟩
    | false =>
     rw [Bool.not_false,if_pos rfl]
     exact wpS_pure ⟨la,o,rfl,rfl,q1,q3,q4,.inr ⟨by omega,e2⟩⟩
  case post =>
   rintro c st' ⟨la,o,rfl,rfl,q1,q3,q4,q5⟩
   dsimp only
   refine last _ _ (by omega) (by omega) (fun i hi=>down i (h+la) (by omega) (by omega) q4) (fun i hi hn=>?_) _ (fun _ _=>rfl)
   rcases q5 with q5 | ⟨q5,q6⟩
   ·omega
   ·exact up (h+o) i (by omega) hn q6
 | false =>
  rw [if_neg (by simp)]
  refine wpS_bind (wpS_forRange (I:=fun x c st'=>∃ la o,st'=st/\c=(none,la,o)/\la<o/\x+1<=o/\la<=h/\bey key l k (f (h-la))=false)
   (Q:=fun c st'=>∃ la o,st'=st/\c=(none,la,o)/\la<o/\la<=h/\bey key l k (f (h-la))=false/\(h+1<=o\/(o<=h/\bey key l k (f (h-o))=true))) ?step ?fin ⟨0,1,rfl,rfl,by omega,by omega,by omega,e⟩ |> (wpS_mono · ?post))
  case fin =>
   rintro c st' ⟨la,o,rfl,rfl,q1,q2,q3,q4⟩
   exact ⟨la,o,rfl,rfl,q1,q3,q4,.inl (by omega)⟩
  case step =>
   rintro x c st' _ hx ⟨la,o,rfl,rfl,q1,q2,q3,q4⟩
   dsimp only
   by_cases hge:o ≥ h+1
   ·rw [if_pos hge]
    exact wpS_pure ⟨la,o,rfl,rfl,q1,q3,q4,.inl hge⟩
   ·rw [if_neg hge]
    refine wpS_bind (ask (h-o) _ (by omega) ?_)
    dsimp only
    cases e2:bey key l k (f (h-o)) with
    | true =>
     rw [if_pos rfl]
     exact wpS_pure ⟨la,o,rfl,rfl,q1,q3,q4,.inr ⟨by omega,e2⟩⟩
    | false =>
     rw [if_neg (by simp)]
     exact wpS_pure ⟨o,2*o+1,rfl,rfl,by omega,by omega,by omega,e2⟩
  case post =>
   rintro c st' ⟨la,o,rfl,rfl,q1,q3,q4,q5⟩
   dsimp only
   refine last _ _ (by omega) (by omega) (fun i hi=>?_) (fun i hi hn=>up (h-la) i hi hn q4) _ (fun _ _=>rfl)
   rcases q5 with q5 | ⟨q5,q6⟩
   ·omega
   ·exact down i (h-o) (by omega) (by omega) q6
end
def Srt (key:Keyed->Int)(l:List Keyed) : Prop:=l.Pairwise fun x y=>key x<=key y
def el (xs:Array Keyed)(i:Nat) : Keyed:=xs.getD i (.none,.none)
theorem zaE {xs:Array Keyed}{i:Nat}(h:i<xs.size) : xs[i]?=some (el xs i):=by
 unfold el
 simp [Array.getD,h]
theorem zbP {xs:Array Keyed}{i:Nat}(h:i<xs.size) : xs.toList[i]?=some (el xs i):=by
 rw [<- zaE h];simp
theorem zbj {xs:Array Keyed}{i:Nat}(h:i<xs.size) : el xs i∈xs.toList:=List.mem_of_getElem? (zbP h)
theorem zbY {key:Keyed->Int}{xs:Array Keyed}(h:Srt key xs.toList){i j:Nat}(hij:i<=j)(hj:j<xs.size) : key (el xs i)<=key (el xs j):=by
 rcases Nat.lt_or_ge i j with q | q
 ·have hi:i<xs.toList.length:=by rw [Array.length_toList];lia
  have hj':j<xs.toList.length:=by rw [Array.length_toList];lia
  have:=List.pairwise_iff_getElem.mp h i j hi hj' q
  have e1:=zbP (xs:=xs) (i:=i) (by lia)
  have e2:=zbP (xs:=xs) (i:=j) hj
  rw [List.getElem?_eq_getElem hi] at e1
  rw [List.getElem?_eq_getElem hj'] at e2
  rw [<- Option.some.inj e1,<- Option.some.inj e2]
  exact this
 ·have:i=j:=by lia
  rw [this];exact Int.le_refl _
theorem zd4 {xs:Array Keyed}{i:Nat}{x:Keyed}(h:x∈xs.toList.drop i) : ∃ j,i<=j/\j<xs.size/\x=el xs j:=by
 obtain ⟨t,ht,rfl⟩:=List.mem_iff_getElem.mp h
 have l:i+t<xs.size:=by rw [List.length_drop,Array.length_toList] at ht;lia
 refine ⟨i+t,by lia,l,?_⟩
 have:=zbP l
 rw [<- List.getElem?_drop,List.getElem?_eq_getElem ht] at this
 exact Option.some.inj this
theorem zhG {xs:Array Keyed}{i k:Nat}{x:Keyed}(h:x∈(xs.toList.drop i).take k) : ∃ j,i<=j/\j<i+k/\j<xs.size/\x=el xs j:=by
 obtain ⟨t,ht,rfl⟩:=List.mem_iff_getElem.mp h
 have l:t<k/\i+t<xs.size:=by rw [List.length_take,List.length_drop,Array.length_toList] at ht;lia
 refine ⟨i+t,by lia,by lia,l.2,?_⟩
 have:=zbP l.2
 rw [<- List.getElem?_drop,<- List.getElem?_take_of_lt l.1,List.getElem?_eq_getElem ht] at this
 exact Option.some.inj this
theorem zm5 (xs:Array Keyed)(i k:Nat) : (xs.extract i (i+k)).toList=(xs.toList.drop i).take k:=by
 rw [Array.toList_extract,List.extract_eq_drop_take]
 congr 1;lia
theorem zdx (xs:Array Keyed)(i:Nat) : (xs.extract i xs.size).toList=xs.toList.drop i:=by
 rw [Array.toList_extract,List.extract_eq_drop_take,List.take_of_length_le]
 rw [List.length_drop,Array.length_toList];lia
theorem zgd {xs:Array Keyed}{i:Nat}(h:i<xs.size) : (xs.toList.drop i).take 1=[el xs i]:=by
 have:=zbP h
 rw [List.drop_eq_getElem_cons (by rw [Array.length_toList];exact h)]
 rw [List.getElem?_eq_getElem (by rw [Array.length_toList];exact h)] at this
 rw [List.take_succ_cons,List.take_zero,Option.some.inj this]
structure MI (key:Keyed->Int) (X Y out:List Keyed) (i j:Nat) : Prop where
 perm:(out++(X.drop i++Y.drop j)).Perm (X++Y)
 srt:Srt key out
 le:∀ x∈out,∀ y∈X.drop i++Y.drop j,key x<=key y
theorem za4 {key:Keyed->Int}{l m:List Keyed} : Srt key (l++m)↔Srt key l/\Srt key m/\∀ x∈l,∀ y∈m,key x<=key y:=List.pairwise_append
theorem zbk {key:Keyed->Int}{l:List Keyed}(h:Srt key l)(i:Nat) : Srt key (l.drop i):=List.Pairwise.sublist (List.drop_sublist i l) h
theorem zbo {key:Keyed->Int}{l:List Keyed}(h:Srt key l)(i:Nat) : Srt key (l.take i):=List.Pairwise.sublist (List.take_sublist i l) h
section
variable {key:Keyed->Int}{X Y out:List Keyed}{i j:Nat}
theorem cutd (l:List Keyed)(i k:Nat) : l.drop i=(l.drop i).take k++l.drop (i+k):=by
 rw [<- List.drop_drop]
 exact (List.take_append_drop k _).symm
theorem MI.takeX (h:MI key X Y out i j)(sX:Srt key X)(k:Nat)(hk:∀ x∈(X.drop i).take k,∀ y∈Y.drop j,key x<=key y) : MI key X Y (out++(X.drop i).take k) (i+k) j:=by
 have e:=cutd X i k
 refine ⟨?_,?_,?_⟩
 ·have:=h.perm
  rw [e] at this
  rw [List.append_assoc,<- List.append_assoc ((X.drop i).take k)]
  exact this
 ·refine za4.mpr ⟨h.srt,zbo (zbk sX i) k,fun x hx y hy=>h.le x hx y (List.mem_append_left _ (List.mem_of_mem_take hy))⟩
 ·intro x hx y hy
  rcases List.mem_append.mp hx with hx | hx
  ·refine h.le x hx y ?_
   rw [e]
   rcases List.mem_append.mp hy with hy | hy
   ·exact List.mem_append_left _ (List.mem_append_right _ hy)
   ·exact List.mem_append_right _ hy
  ·rcases List.mem_append.mp hy with hy | hy
   ·have:=zbk sX i
    rw [e] at this
    exact (za4.mp this).2.2 x hx y hy
   ·exact hk x hx y hy
theorem MI.takeY (h:MI key X Y out i j)(sY:Srt key Y)(k:Nat)(hk:∀ x∈(Y.drop j).take k,∀ y∈X.drop i,key x<=key y) : MI key X Y (out++(Y.drop j).take k) i (j+k):=by
 have e:=cutd Y j k
 refine ⟨?_,?_,?_⟩
 ·have:=h.perm
  rw [e] at this
  refine List.Perm.trans ?_ this
  rw [List.append_assoc]
  refine List.Perm.append_left _ ?_
  rw [<- List.append_assoc,<- List.append_assoc]
  exact List.Perm.append_right _ List.perm_append_comm
 ·refine za4.mpr ⟨h.srt,zbo (zbk sY j) k,fun x hx y hy=>h.le x hx y (List.mem_append_right _ (List.mem_of_mem_take hy))⟩
 ·intro x hx y hy
  rcases List.mem_append.mp hx with hx | hx
  ·refine h.le x hx y ?_
   rw [e]
   rcases List.mem_append.mp hy with hy | hy
   ·exact List.mem_append_left _ hy
   ·exact List.mem_append_right _ (List.mem_append_right _ hy)
  ·rcases List.mem_append.mp hy with hy | hy
   ·exact hk x hx y hy
   ·have:=zbk sY j
    rw [e] at this
    exact (za4.mp this).2.2 x hx y hy
def Mrg (key:Keyed->Int)(X Y R:List Keyed) : Prop:=R.Perm (X++Y)/\Srt key R
theorem MI.all (h:MI key X Y out i j)(hi:X.length<=i)(hj:Y.length<=j) : Mrg key X Y out:=by
 have:=h.perm
 rw [List.drop_eq_nil_of_le hi,List.drop_eq_nil_of_le hj,List.append_nil,List.append_nil] at this
 exact ⟨this,h.srt⟩
theorem MI.doneX (h:MI key X Y out i j)(sX:Srt key X)(hj:Y.length<=j) : Mrg key X Y (out++X.drop i++Y.drop j):=by
 have e:=List.drop_eq_nil_of_le hj
 rw [e,List.append_nil]
 have:=h.takeX sX X.length fun x _ y hy=>by rw [e] at hy;cases hy
 rw [List.take_of_length_le (by rw [List.length_drop];lia)] at this
 exact this.all (by lia) hj
theorem MI.doneY (h:MI key X Y out i j)(sY:Srt key Y)(hi:X.length<=i) : Mrg key X Y (out++X.drop i++Y.drop j):=by
 have e:=List.drop_eq_nil_of_le hi
 rw [e,List.append_nil]
 have:=h.takeY sY Y.length fun x _ y hy=>by rw [e] at hy;cases hy
 rw [List.take_of_length_le (by rw [List.length_drop];lia)] at this
 exact this.all hi (by lia)
theorem MI.last (h:MI key X Y out i j)(sX:Srt key X)(sY:Srt key Y)(hk:∀ x∈Y,∀ y∈X.drop i,key x<=key y) : Mrg key X Y (out++Y.drop j++X.drop i):=by
 have h1:=h.takeY sY Y.length fun x hx y hy=>hk x (List.mem_of_mem_drop (List.mem_of_mem_take hx)) y hy
 rw [List.take_of_length_le (by rw [List.length_drop];lia)] at h1
 have e:Y.drop (j+Y.length)=[]:=List.drop_eq_nil_of_le (by lia)
 have h2:=h1.takeX sX X.length fun x _ y hy=>by rw [e] at hy;cases hy
 rw [List.take_of_length_le (by rw [List.length_drop];lia)] at h2
 exact h2.all (by lia) (by lia)
end
def zlm:Array Keyed->Array Keyed->StateT SortSt Sem (Array Keyed):=sortPriv% PySem.Builtin.mergeLo
section
variable {prog:Program}{w:World}{A:Around}{E:Value->Shared->Prop}{s:Shared}{κ:SortKind}{key:Keyed->Int}{D:Keyed->Prop}
theorem zlS {k x:Keyed} : bey key false k x=true↔key x<=key k:=by
 unfold bey
 simp only [Bool.false_eq_true,if_false,Bool.not_eq_true',decide_eq_false_iff_not]
 lia
theorem zlI {k x:Keyed} : bey key true k x=true↔key x<key k:=by
 unfold bey
 simp only [if_true,decide_eq_true_eq]
theorem zja {k x:Keyed} : bey key false k x=false↔key k<key x:=by
 unfold bey
 simp only [Bool.false_eq_true,if_false,Bool.not_eq_false',decide_eq_true_eq]
theorem zi8 {k x:Keyed} : bey key true k x=false↔key k<=key x:=by
 unfold bey
 simp only [if_true,decide_eq_false_iff_not]
 lia
theorem zae {σ α:Type}{M:Model}{c:Prop}[Decidable c]{m n:StateT σ Sem α}{Q:α->σ->Prop}{st:σ}(h1:c->wpS M A E s m Q st)(h2 : ¬ c->wpS M A E s n Q st) : wpS M A E s (if c then m else n) Q st:=by
 by_cases h:c
 ·rw [if_pos h];exact h1 h
 ·rw [if_neg h];exact h2 h
theorem zhx (o:Array Keyed)(x:Keyed) : (o.push x).toList=o.toList++[x]:=Array.toList_push
theorem zk3 {a b arr:Array Keyed}{pend:Array (Nat×Nat×Nat)}{g:Nat}{Q:Array Keyed->SortSt->Prop}(T:Tells prog w A s κ key D)(da:∀ x∈a.toList,D x)(db:∀ x∈b.toList,D x)(sa:Srt key a.toList)(sb:Srt key b.toList)(na:0<a.size)(nb:0<b.size)
  (first:∀ x∈a.toList,key (el b 0)<=key x) (lst:∀ x∈b.toList,key x<=key (el a (a.size-1)))
  (hq:∀ (R:Array Keyed) (g':Nat),Mrg key a.toList b.toList R.toList->Q R (SS κ arr pend g')) : wpS (model prog w) A E s (zlm a b) Q (SS κ arr pend g):=by
 have la:a.toList.length=a.size:=Array.length_toList
 have lb:b.toList.length=b.size:=Array.length_toList
 have doneB:∀ (o:Array Keyed) (i j:Nat),MI key a.toList b.toList o.toList i j->b.size<=j->Mrg key a.toList b.toList (o++a.extract i a.size++b.extract j b.size).toList:=by
  intro o i j h hj
  rw [Array.toList_append,Array.toList_append,zdx,zdx]
  exact h.doneX sa (by lia)
 have doneA:∀ (o:Array Keyed) (i j:Nat),MI key a.toList b.toList o.toList i j->a.size<=i->Mrg key a.toList b.toList (o++a.extract i a.size++b.extract j b.size).toList:=by
  intro o i j h hj
  rw [Array.toList_append,Array.toList_append,zdx,zdx]
  exact h.doneY sb (by lia)
 have lastA:∀ (o:Array Keyed) (i j:Nat),MI key a.toList b.toList o.toList i j->i+1=a.size->Mrg key a.toList b.toList (o++b.extract j b.size++a.extract i a.size).toList:=by
  intro o i j h hj
  rw [Array.toList_append,Array.toList_append,zdx,zdx]
  refine h.last sa sb fun x hx y hy=>?_
  obtain ⟨t,t1,t2,rfl⟩:=zd4 hy
  have:t=a.size-1:=by lia
  rw [this]
  exact lst x hx
 have pushB:∀ {o:Array Keyed} {i j:Nat},MI key a.toList b.toList o.toList i j->j<b.size->(∀ y∈a.toList.drop i,key (el b j)<=key y)->MI key a.toList b.toList (o.push (el b j)).toList i (j+1):=by
  intro o i j h hj hy
  rw [zhx,<- zgd hj]
  refine h.takeY sb 1 fun x hx y hy'=>?_
  rw [zgd hj] at hx
  rw [List.mem_singleton.mp hx]
  exact hy y hy'
 have pushA:∀ {o:Array Keyed} {i j:Nat},MI key a.toList b.toList o.toList i j->i<a.size->(∀ y∈b.toList.drop j,key (el a i)<=key y)->MI key a.toList b.toList (o.push (el a i)).toList (i+1) j:=by
  intro o i j h hj hy
  rw [zhx,<- zgd hj]
  refine h.takeX sa 1 fun x hx y hy'=>?_
  rw [zgd hj] at hx
  rw [List.mem_singleton.mp hx]
  exact hy y hy'
 unfold zlm
 refine wpS_bind (wpS_lift (wpAny_rule ⟨rfl,?_⟩))
 refine wpS_bind (zaI (zaE nb) ?_)
 dsimp only
 have h0:MI key a.toList b.toList (#[el b 0] : Array Keyed).toList 0 1:=by
  have:MI key a.toList b.toList [] 0 0:=⟨by simp,List.Pairwise.nil,fun x hx=>nomatch hx⟩
  exact pushB (o:=#[]) this nb fun y hy=>first y (List.mem_of_mem_drop hy)
 by_cases c1:1=b.size
 ·rw [if_pos (by simpa using c1)]
  exact wpS_pure (hq _ _ (doneB _ _ _ h0 (by lia)))
 rw [if_neg (by simpa using c1)]
 by_cases c2:0+1=a.size
 ·rw [if_pos (by simpa using c2)]
  exact wpS_pure (hq _ _ (lastA _ _ _ h0 (by lia)))
 rw [if_neg (by simpa using c2)]
 refine wpS_bind (wpS_get ?_)
 try dsimp only
 refine wpS_bind (wpS_forRange (I:=fun x c st'=>∃ (o:Array Keyed) (i j m g':Nat),c=(none,o,i,j,m)/\st'=SS κ arr pend g'/\MI key a.toList b.toList o.toList i j/\i+1<a.size/\j<b.size/\x+1<=i+j)
  (Q:=fun c st'=>∃ (R:Array Keyed) (g':Nat),c.1=some R/\st'=SS κ arr pend g'/\Mrg key a.toList b.toList R.toList) ?step ?fin ⟨_,0,1,_,g,rfl,rfl,h0,by lia,by lia,by lia⟩ |> (wpS_mono · ?post))
 case post =>
  rintro ⟨c1,c2⟩ st' ⟨R,g',e,rfl,hR⟩
  obtain rfl:c1=some R:=e
  exact wpS_pure (hq R g' hR)
 case fin =>
  rintro c st' ⟨o,i,j,m,g',rfl,rfl,h,q1,q2,q3⟩
  exfalso;lia
 case step =>
  rintro x c st' _ hx ⟨o,i,j,m,g',rfl,rfl,h,q1,q2,q3⟩
  dsimp only
  refine wpS_bind (wpS_forRange (I:=fun y c st'=>∃ (o:Array Keyed) (i' j' ac bc:Nat),c=(none,o,i',j',ac,bc)/\st'=SS κ arr pend g'/\MI key a.toList b.toList o.toList i' j'/\i'+1<a.size/\j' < b.size/\i+j+(if y=0 then 0 else 1)<=i'+j')
   (Q:=fun c st'=>st'=SS κ arr pend g'/\((∃ R:Array Keyed,c.1=some R/\Mrg key a.toList b.toList R.toList)\/∃ (o:Array Keyed) (i' j' ac bc:Nat),c=(none,o,i',j',ac,bc)/\MI key a.toList b.toList o.toList i' j'/\i'+1<a.size/\j' < b.size/\i+j+1<=i'+j')) ?step ?fin ⟨_,i,j,0,0,rfl,rfl,h,q1,q2,by simp⟩ |> (wpS_mono · ?post))
  case fin =>
   rintro c st' ⟨o,i',j',ac,bc,rfl,rfl,h',r1,r2,r3⟩
   refine ⟨rfl,.inr ⟨o,i',j',ac,bc,rfl,h',r1,r2,?_⟩⟩
   rw [if_neg (by lia)] at r3
   exact r3
  case step =>
   rintro y c st' _ hy ⟨o,i',j',ac,bc,rfl,rfl,h',r1,r2,r3⟩
   dsimp only
   have r4:i+j<=i'+j':=by split at r3<;>lia
   refine wpS_bind (zaI (zaE r2) (wpS_bind (zaI (zaE (show i' < a.size by lia)) ?_)))
   refine wpS_bind (t_lt T rfl (db _ (zbj r2)) (da _ (zbj (by lia))) ?_)
   dsimp only
   by_cases lt:key (el b j')<key (el a i')
   ·rw [decide_eq_true lt,if_pos rfl]
    refine wpS_bind (zaI (zaE r2) ?_)
    try dsimp only
    have h2:=pushB h' r2 fun y hy=>by
     obtain ⟨t,t1,t2,rfl⟩:=zd4 hy
     have:=zbY sa t1 t2
     lia
    by_cases c:j'+1=b.size
    ·rw [if_pos (by simpa using c)]
     exact wpS_pure ⟨rfl,.inl ⟨_,rfl,doneB _ _ _ h2 (by lia)⟩⟩
    rw [if_neg (by simpa using c)]
    split
    ·exact wpS_pure ⟨rfl,.inr ⟨_,_,_,_,_,rfl,h2,r1,by lia,by lia⟩⟩
    ·exact wpS_pure ⟨_,_,_,_,_,rfl,rfl,h2,r1,by lia,by rw [if_neg (by lia)];lia⟩
   ·rw [decide_eq_false lt,if_neg (by simp)]
    refine wpS_bind (zaI (zaE (show i' < a.size by lia)) ?_)
    try dsimp only
    have h2:=pushA h' (by lia) fun y hy=>by
     obtain ⟨t,t1,t2,rfl⟩:=zd4 hy
     have:=zbY sb t1 t2
     lia
    by_cases c:i'+1+1=a.size
    ·rw [if_pos (by simpa using c)]
     exact wpS_pure ⟨rfl,.inl ⟨_,rfl,lastA _ _ _ h2 (by lia)⟩⟩
    rw [if_neg (by simpa using c)]
    split
    ·exact wpS_pure ⟨rfl,.inr ⟨_,_,_,_,_,rfl,h2,by lia,r2,by lia⟩⟩
    ·exact wpS_pure ⟨_,_,_,_,_,rfl,rfl,h2,by lia,r2,by rw [if_neg (by lia)];lia⟩
  case post =>
   rintro ⟨c1,c2⟩ st' ⟨rfl,z⟩
   rcases z with ⟨R,e,hR⟩ | ⟨o,i',j',ac,bc,e,h',r1,r2,r3⟩
   ·obtain rfl:c1=some R:=e
    exact wpS_pure ⟨R,g',rfl,rfl,hR⟩
   cases e
   dsimp only
   refine wpS_bind (wpS_lift (wpAny_rule ⟨rfl,?_⟩))
   refine wpS_bind (wpS_forRange (I:=fun y c st'=>∃ (o:Array Keyed) (u v m ac bc g':Nat),c=(none,o,u,v,m,ac,bc)/\st'=SS κ arr pend g'/\MI key a.toList b.toList o.toList u v/\u+1<a.size/\v<b.size/\i+j+1<=u+v)
    (Q:=fun c st'=>∃ g',st'=SS κ arr pend g'/\((∃ R:Array Keyed,c.1=some R/\Mrg key a.toList b.toList R.toList)\/∃ (o:Array Keyed) (u v m ac bc:Nat),c=(none,o,u,v,m,ac,bc)/\MI key a.toList b.toList o.toList u v/\u+1<a.size/\v<b.size/\i+j+1<=u+v)) ?step ?fin ⟨_,i',j',_,_,_,g',rfl,rfl,h',r1,r2,r3⟩ |> (wpS_mono · ?post))
   case fin =>
    rintro c st' ⟨o,u,v,m,ac,bc,g',rfl,rfl,h',r1,r2,r3⟩
    exact ⟨g',rfl,.inr ⟨o,u,v,m,ac,bc,rfl,h',r1,r2,r3⟩⟩
   case post =>
    rintro ⟨c1,c2⟩ st' ⟨g',rfl,z⟩
    rcases z with ⟨R,e,hR⟩ | ⟨o,u,v,m,ac,bc,e,h',r1,r2,r3⟩
    ·obtain rfl:c1=some R:=e
     exact wpS_pure ⟨R,g',rfl,rfl,hR⟩
    cases e
    dsimp only
    refine wpS_bind (wpS_modify (wpS_pure ⟨_,_,_,_,_,rfl,rfl,h',r1,r2,by lia⟩))
   case step =>
    rintro y c st' _ hy ⟨o,u,v,m,ac,bc,g',rfl,rfl,h',r1,r2,r3⟩
    have xa:∀ t,t<a.size-u->a[u+t]?=some (el a (u+t))/\D (el a (u+t)):=fun t ht=>⟨zaE (by lia),da _ (zbj (by lia))⟩
    refine zae (fun _=>?_) (fun _=>?_)
    all_goals
     refine wpS_bind (wpS_modify ?_)
     refine wpS_bind (zaI (arr:=b) (i:=v) (zaE r2) ?_)
     refine wpS_bind (ze0 (l:=false) (k:=el b v) (arr:=a) (b:=u) (n:=a.size-u) (h:=0) T rfl (db _ (zbj r2)) (fun t=>el a (u+t)) xa (by lia) (fun i j hij hj=>zbY sa (by lia) (by lia)) fun k k1 k2 k3=>?_)
     have hA:MI key a.toList b.toList (o++a.extract u (u+k)).toList (u+k) v:=by
      rw [Array.toList_append,zm5]
      refine h'.takeX sa k fun x hx y hy=>?_
      obtain ⟨t,t1,t2,t3,rfl⟩:=zhG hx
      obtain ⟨t',t1',t2',rfl⟩:=zd4 hy
      have:=zlS.mp (k2 (t-u) (by lia))
      rw [show u+(t-u)=t by lia] at this
      have:=zbY sb t1' t2'
      lia
     have hB:∀ {o:Array Keyed},MI key a.toList b.toList o.toList (u+k) v->MI key a.toList b.toList (o.push (el b v)).toList (u+k) (v+1):=fun h=>pushB h r2 fun y hy=>by
      obtain ⟨t,t1,t2,rfl⟩:=zd4 hy
      have:=zja.mp (k3 (t-u) (by lia) (by lia))
      rw [show u+(t-u)=t by lia] at this
      lia
     refine zae (fun ck=>?_) (fun ck=>?_)
     refine zae (fun c=>wpS_pure ⟨_,rfl,.inl ⟨_,rfl,lastA _ _ _ hA (eq_of_beq c)⟩⟩) (fun c=>?_)
     have c:u+k+1≠a.size:=fun z=>c (beq_iff_eq.mpr z)
     refine zae (fun c=>wpS_pure ⟨_,rfl,.inl ⟨_,rfl,doneA _ _ _ hA (Nat.le_of_eq (eq_of_beq c).symm)⟩⟩) (fun c2=>?_)
     have c2:u+k≠a.size:=fun z=>c2 (beq_iff_eq.mpr z)
     let p:=u+k
     have hp:p+1<a.size/\u<=p:=by show u+k+1<a.size/\u<=u+k;lia
     let O:=(o++a.extract u (u+k)).push (el b v)
     have hO:MI key a.toList b.toList O.toList p (v+1):=hB hA
     rotate_left
     have k0:k=0:=Nat.le_zero.mp (Nat.le_of_not_lt ck)
     subst k0
     let p:=u
     have hp:p+1<a.size/\u<=p:=⟨r1,Nat.le_refl _⟩
     let O:=o.push (el b v)
     have hO:MI key a.toList b.toList O.toList p (v+1):=hB h'
     all_goals
      refine wpS_bind (zaI (arr:=b) (i:=v) (zaE r2) ?_)
      refine zae (fun c=>wpS_pure ⟨_,rfl,.inl ⟨_,rfl,doneB O p (v+1) hO (Nat.le_of_eq (eq_of_beq c).symm)⟩⟩) (fun c=>?_)
      have c:v+1≠b.size:=fun z=>c (beq_iff_eq.mpr z)
      have xb:∀ t,t<b.size-(v+1)->b[v+1+t]?=some (el b (v+1+t))/\D (el b (v+1+t)):=fun t ht=>⟨zaE (by lia),db _ (zbj (by lia))⟩
      have pl:p<a.size:=by lia
      refine wpS_bind (zaI (arr:=a) (i:=p) (zaE pl) ?_)
      refine wpS_bind (ze0 (l:=true) (k:=el a p) (arr:=b) (b:=v+1) (n:=b.size-(v+1)) (h:=0) T rfl (da _ (zbj pl)) (fun t=>el b (v+1+t)) xb (by lia) (fun i j hij hj=>zbY sb (by lia) (by lia)) fun k' e1 e2 e3=>?_)
      have hC:MI key a.toList b.toList (O++b.extract (v+1) (v+1+k')).toList p (v+1+k'):=by
       rw [Array.toList_append,zm5]
       refine hO.takeY sb k' fun x hx y hy=>?_
       obtain ⟨t,t1,t2,t3,rfl⟩:=zhG hx
       obtain ⟨t',t1',t2',rfl⟩:=zd4 hy
       have:=zlI.mp (e2 (t-(v+1)) (by lia))
       rw [show v+1+(t-(v+1))=t by lia] at this
       have:=zbY sa t1' t2'
       lia
      have hD:∀ {o:Array Keyed},MI key a.toList b.toList o.toList p (v+1+k')->MI key a.toList b.toList (o.push (el a p)).toList (p+1) (v+1+k'):=fun h=>pushA h pl fun y hy=>by
       obtain ⟨t,t1,t2,rfl⟩:=zd4 hy
       have:=zi8.mp (e3 (t-(v+1)) (by lia) (by lia))
       rw [show v+1+(t-(v+1))=t by lia] at this
       exact this
      refine zae (fun ck'=>?_) (fun ck'=>?_)
      ·refine zae (fun c=>wpS_pure ⟨_,rfl,.inl ⟨_,rfl,doneB _ _ _ hC (Nat.le_of_eq (eq_of_beq c).symm)⟩⟩) (fun c'=>?_)
       have c':v+1+k'≠b.size:=fun z=>c' (beq_iff_eq.mpr z)
       refine wpS_bind (zaI (arr:=a) (i:=p) (zaE pl) ?_)
       refine zae (fun c=>wpS_pure ⟨_,rfl,.inl ⟨_,rfl,lastA _ _ _ (hD hC) (eq_of_beq c)⟩⟩) (fun c''=>?_)
       have c'':p+1+1≠a.size:=fun z=>c'' (beq_iff_eq.mpr z)
       refine zae (fun _=>wpS_pure ⟨_,rfl,.inr ⟨_,p+1,v+1+k',_,_,_,rfl,hD hC,by lia,by lia,by lia⟩⟩) (fun _=>wpS_pure ⟨_,p+1,v+1+k',_,_,_,_,rfl,rfl,hD hC,by lia,by lia,by lia⟩)
      ·have k0:k'=0:=Nat.le_zero.mp (Nat.le_of_not_lt ck')
       subst k0
       refine wpS_bind (zaI (arr:=a) (i:=p) (zaE pl) ?_)
       refine zae (fun c=>wpS_pure ⟨_,rfl,.inl ⟨_,rfl,lastA _ _ _ (hD hO) (eq_of_beq c)⟩⟩) (fun c''=>?_)
       have c'':p+1+1≠a.size:=fun z=>c'' (beq_iff_eq.mpr z)
       refine zae (fun _=>wpS_pure ⟨_,rfl,.inr ⟨_,p+1,v+1,_,_,_,rfl,hD hO,by lia,by lia,by lia⟩⟩) (fun _=>wpS_pure ⟨_,p+1,v+1,_,_,_,_,rfl,rfl,hD hO,by lia,by lia,by lia⟩)
end
def zlx:Array Keyed->Array Keyed->StateT SortSt Sem (Array Keyed):=sortPriv% PySem.Builtin.mergeHi
structure HI (key:Keyed->Int) (X Y R:List Keyed) (i j:Nat) : Prop where
 perm:(X.take i++Y.take j++R).Perm (X++Y)
 srt:Srt key R
 le:∀ x∈X.take i++Y.take j,∀ y∈R,key x<=key y
section
variable {key:Keyed->Int}{X Y R:List Keyed}{i j:Nat}
theorem cutt (l:List Keyed){i k:Nat}(h:k<=i) : l.take i=l.take k++(l.take i).drop k:=by
 have:=List.take_append_drop k (l.take i)
 rw [List.take_take,Nat.min_eq_left h] at this
 exact this.symm
theorem HI.takeX (h:HI key X Y R i j)(sX:Srt key X){k:Nat}(hki:k<=i)(hk:∀ x∈(X.take i).drop k,∀ y∈Y.take j,key y<=key x) : HI key X Y ((X.take i).drop k++R) k j:=by
 have e:=cutt X hki
 refine ⟨?_,?_,?_⟩
 ·have:=h.perm
  rw [e] at this
  refine List.Perm.trans ?_ this
  rw [<- List.append_assoc]
  refine List.Perm.append_right _ ?_
  rw [List.append_assoc,List.append_assoc]
  exact List.Perm.append_left _ List.perm_append_comm
 ·exact za4.mpr ⟨zbk (zbo sX i) k,h.srt,fun x hx y hy=>h.le x (List.mem_append_left _ (List.mem_of_mem_drop hx)) y hy⟩
 ·intro x hx y hy
  rcases List.mem_append.mp hy with hy | hy
  ·rcases List.mem_append.mp hx with hx | hx
   ·have:=zbo sX i
    rw [e] at this
    exact (za4.mp this).2.2 x hx y hy
   ·exact hk y hy x hx
  ·refine h.le x ?_ y hy
   rw [e]
   rcases List.mem_append.mp hx with hx | hx
   ·exact List.mem_append_left _ (List.mem_append_left _ hx)
   ·exact List.mem_append_right _ hx
theorem HI.takeY (h:HI key X Y R i j)(sY:Srt key Y){k:Nat}(hkj:k<=j)(hk:∀ x∈(Y.take j).drop k,∀ y∈X.take i,key y<=key x) : HI key X Y ((Y.take j).drop k++R) i k:=by
 have e:=cutt Y hkj
 refine ⟨?_,?_,?_⟩
 ·have:=h.perm
  rw [e] at this
  rw [<- List.append_assoc,List.append_assoc (X.take i)]
  exact this
 ·exact za4.mpr ⟨zbk (zbo sY j) k,h.srt,fun x hx y hy=>h.le x (List.mem_append_right _ (List.mem_of_mem_drop hx)) y hy⟩
 ·intro x hx y hy
  rcases List.mem_append.mp hy with hy | hy
  ·rcases List.mem_append.mp hx with hx | hx
   ·exact hk y hy x hx
   ·have:=zbo sY j
    rw [e] at this
    exact (za4.mp this).2.2 x hx y hy
  ·refine h.le x ?_ y hy
   rw [e]
   rcases List.mem_append.mp hx with hx | hx
   ·exact List.mem_append_left _ hx
   ·exact List.mem_append_right _ (List.mem_append_left _ hx)
theorem HI.all (h:HI key X Y R 0 0) : Mrg key X Y R:=by
 have:=h.perm
 rw [List.take_zero,List.take_zero,List.nil_append,List.nil_append] at this
 exact ⟨this,h.srt⟩
theorem HI.doneX (h:HI key X Y R i 0)(sX:Srt key X) : Mrg key X Y (X.take i++Y.take 0++R):=by
 rw [List.take_zero,List.append_nil]
 have:=h.takeX sX (Nat.zero_le i) fun x _ y hy=>by rw [List.take_zero] at hy;cases hy
 rw [List.drop_zero] at this
 exact this.all
theorem HI.doneY (h:HI key X Y R 0 j)(sY:Srt key Y) : Mrg key X Y (X.take 0++Y.take j++R):=by
 rw [List.take_zero,List.nil_append]
 have:=h.takeY sY (Nat.zero_le j) fun x _ y hy=>by rw [List.take_zero] at hy;cases hy
 rw [List.drop_zero] at this
 exact this.all
theorem HI.first (h:HI key X Y R i j)(sX:Srt key X)(sY:Srt key Y)(hk:∀ x∈X,∀ y∈Y.take j,key y<=key x) : Mrg key X Y (Y.take j++X.take i++R):=by
 have h1:=h.takeX sX (Nat.zero_le i) fun x hx y hy=>hk x (List.mem_of_mem_take (List.mem_of_mem_drop hx)) y hy
 rw [List.drop_zero] at h1
 have:=(h1.takeY sY (Nat.zero_le j) fun x _ y hy=>by rw [List.take_zero] at hy;cases hy)
 rw [List.drop_zero] at this
 rw [List.append_assoc]
 exact this.all
end
theorem zgW {xs:Array Keyed}{i:Nat}{x:Keyed}(h:x∈xs.toList.take i) : ∃ j,j<i/\j<xs.size/\x=el xs j:=by
 have:x∈(xs.toList.drop 0).take i:=by rw [List.drop_zero];exact h
 obtain ⟨j,_,h2,h3,h4⟩:=zhG this
 exact ⟨j,by lia,h3,h4⟩
theorem zlj {xs:Array Keyed}{i k:Nat}{x:Keyed}(h:x∈(xs.toList.take i).drop k) : ∃ j,k<=j/\j<i/\j<xs.size/\x=el xs j:=by
 rw [List.drop_take] at h
 obtain ⟨j,h1,h2,h3,h4⟩:=zhG h
 exact ⟨j,h1,by lia,h3,h4⟩
theorem ziI (xs:Array Keyed)(i:Nat) : (xs.extract 0 i).toList=xs.toList.take i:=by
 rw [Array.toList_extract,List.extract_eq_drop_take,List.drop_zero,Nat.sub_zero]
theorem zmX (xs:Array Keyed)(k i:Nat) : (xs.extract k i).toList=(xs.toList.take i).drop k:=by
 rw [Array.toList_extract,List.extract_eq_drop_take,List.drop_take]
theorem zh8 {xs:Array Keyed}{i:Nat}(h:i<xs.size) : (xs.toList.take (i+1)).drop i=[el xs i]:=by
 rw [List.drop_take,show i+1-i=1 by lia]
 exact zgd h
section
variable {prog:Program}{w:World}{A:Around}{E:Value->Shared->Prop}{s:Shared}{κ:SortKind}{key:Keyed->Int}{D:Keyed->Prop}
theorem zks {a b arr : Array Keyed}{pend : Array (Nat × Nat × Nat)}{g : Nat}{Q : Array Keyed → SortSt → Prop}(T : Tells prog w A s κ key D)(da : ∀ x ∈ a.toList, D x)(db : ∀ x ∈ b.toList, D x)(sa : Srt key a.toList)(sb : Srt key b.toList)(na : 0 < a.size)(nb : 0 < b.size)
  (first:∀ x∈a.toList,key (el b 0)<=key x) (lst:∀ x∈b.toList,key x<=key (el a (a.size-1)))
  (hq:∀ (R:Array Keyed) (g':Nat),Mrg key a.toList b.toList R.toList->Q R (SS κ arr pend g')) : wpS (model prog w) A E s (zlx a b) Q (SS κ arr pend g):=by
 have la:a.toList.length=a.size:=Array.length_toList
 have lb:b.toList.length=b.size:=Array.length_toList
 have done0:∀ (o:Array Keyed) (i j:Nat),HI key a.toList b.toList o.toList.reverse i j->i=0->Mrg key a.toList b.toList (a.extract 0 i++b.extract 0 j++o.reverse).toList:=by
  intro o i j h hi
  subst hi
  rw [Array.toList_append,Array.toList_append,ziI,ziI,Array.toList_reverse]
  exact h.doneY sb
 have done1:∀ (o:Array Keyed) (i j:Nat),HI key a.toList b.toList o.toList.reverse i j->j=0->Mrg key a.toList b.toList (a.extract 0 i++b.extract 0 j++o.reverse).toList:=by
  intro o i j h hi
  subst hi
  rw [Array.toList_append,Array.toList_append,ziI,ziI,Array.toList_reverse]
  exact h.doneX sa
 have firstB:∀ (o:Array Keyed) (i j:Nat),HI key a.toList b.toList o.toList.reverse i j->j=1->Mrg key a.toList b.toList (b.extract 0 j++a.extract 0 i++o.reverse).toList:=by
  intro o i j h hj
  subst hj
  rw [Array.toList_append,Array.toList_append,ziI,ziI,Array.toList_reverse]
  refine h.first sa sb fun x hx y hy=>?_
  obtain ⟨t,t1,t2,rfl⟩:=zgW hy
  have:t=0:=by lia
  rw [this]
  exact first x hx
 have pushA:∀ {o:Array Keyed} {i j:Nat},HI key a.toList b.toList o.toList.reverse (i+1) j->i<a.size->(∀ y∈b.toList.take j,key y<=key (el a i))->HI key a.toList b.toList (o.push (el a i)).toList.reverse i j:=by
  intro o i j h hi hy
  rw [zhx,List.reverse_append,List.reverse_singleton,<- zh8 hi]
  refine h.takeX sa (Nat.le_succ i) fun x hx y hy'=>?_
  rw [zh8 hi] at hx
  rw [List.mem_singleton.mp hx]
  exact hy y hy'
 have pushB:∀ {o:Array Keyed} {i j:Nat},HI key a.toList b.toList o.toList.reverse i (j+1)->j<b.size->(∀ y∈a.toList.take i,key y<=key (el b j))->HI key a.toList b.toList (o.push (el b j)).toList.reverse i j:=by
  intro o i j h hi hy
  rw [zhx,List.reverse_append,List.reverse_singleton,<- zh8 hi]
  refine h.takeY sb (Nat.le_succ j) fun x hx y hy'=>?_
  rw [zh8 hi] at hx
  rw [List.mem_singleton.mp hx]
  exact hy y hy'
 unfold zlx
 refine wpS_bind (wpS_lift (wpAny_rule ⟨rfl,?_⟩))
 refine wpS_bind (zaI (arr:=a) (i:=a.size-1) (zaE (by lia)) ?_)
 obtain ⟨n,en⟩ : ∃ n,a.size=n+1:=⟨a.size-1,by lia⟩
 have en1:a.size-1=n:=by lia
 rw [en1] at lst
 have h0:HI key a.toList b.toList (#[el a n] : Array Keyed).toList.reverse n b.size:=by
  have:HI key a.toList b.toList [] (n+1) b.size:=⟨by rw [List.take_of_length_le (by lia),List.take_of_length_le (by lia),List.append_nil],List.Pairwise.nil,fun x _ y hy=>nomatch hy⟩
  exact pushA (o:=#[]) this (by lia) fun y hy=>lst y (List.mem_of_mem_take hy)
 rw [<- en1] at h0
 refine zae (fun c=>wpS_pure (hq _ _ (done0 _ _ _ h0 (eq_of_beq c)))) (fun c=>?_)
 have c:a.size-1≠0:=fun z=>c (beq_iff_eq.mpr z)
 refine zae (fun c=>wpS_pure (hq _ _ (firstB _ _ _ h0 (eq_of_beq c)))) (fun c'=>?_)
 have c':b.size≠1:=fun z=>c' (beq_iff_eq.mpr z)
 refine wpS_bind (wpS_get ?_)
 refine wpS_bind (wpS_forRange (I:=fun x c st'=>∃ (o:Array Keyed) (i j m g':Nat),c=(none,i,j,o,m)/\st'=SS κ arr pend g'/\HI key a.toList b.toList o.toList.reverse i j/\0<i/\i<=a.size/\1<j/\j<=b.size/\x+1+i+j<=a.size+b.size)
  (Q:=fun c st'=>∃ (R:Array Keyed) (g':Nat),c.1=some R/\st'=SS κ arr pend g'/\Mrg key a.toList b.toList R.toList) ?step ?fin ⟨_,a.size-1,b.size,_,g,rfl,rfl,h0,by lia,by lia,by lia,by lia,by lia⟩ |> (wpS_mono · ?post))
 case post =>
  rintro ⟨c1,c2⟩ st' ⟨R,g',e,rfl,hR⟩
  obtain rfl:c1=some R:=e
  exact wpS_pure (hq R g' hR)
 case fin =>
  rintro c st' ⟨o,i,j,m,g',rfl,rfl,h,q1,q2,q3,q4,q5⟩
  exfalso;lia
 case step =>
  rintro x c st' _ hx ⟨o,i,j,m,g',rfl,rfl,h,q1,q2,q3,q4,q5⟩
  refine wpS_bind (wpS_forRange (I:=fun y c st'=>∃ (o:Array Keyed) (i' j' ac bc:Nat),c=(none,i',j',o,ac,bc)/\st'=SS κ arr pend g'/\HI key a.toList b.toList o.toList.reverse i' j'/\0<i'/\i'<=a.size/\1<j'/\j'<=b.size/\i'+j'+(if y=0 then 0 else 1)<=i+j)
   (Q:=fun c st'=>st'=SS κ arr pend g'/\((∃ R:Array Keyed,c.1=some R/\Mrg key a.toList b.toList R.toList)\/∃ (o:Array Keyed) (i' j' ac bc:Nat),c=(none,i',j',o,ac,bc)/\HI key a.toList b.toList o.toList.reverse i' j'/\0<i'/\i'<=a.size/\1<j'/\j'<=b.size/\i'+j'+1<=i+j)) ?step ?fin ⟨_,i,j,0,0,rfl,rfl,h,q1,q2,q3,q4,by simp⟩ |> (wpS_mono · ?post))
  case fin =>
   rintro c st' ⟨o,i',j',ac,bc,rfl,rfl,h',r1,r2,r3,r4,r5⟩
   refine ⟨rfl,.inr ⟨o,i',j',ac,bc,rfl,h',r1,r2,r3,r4,?_⟩⟩
   rw [if_neg (by lia)] at r5
   exact r5
  case step =>
   rintro y c st' _ hy ⟨o,i',j',ac,bc,rfl,rfl,h',r1,r2,r3,r4,r5⟩
   have r6:i'+j'<=i+j:=by split at r5<;>lia
   obtain ⟨i',rfl⟩ : ∃ t,i'=t+1:=⟨i' - 1,by lia⟩
   obtain ⟨j',rfl⟩ : ∃ t,j'=t+1:=⟨j' - 1,by lia⟩
   refine wpS_bind (zaI (arr:=b) (i:=j') (zaE (by lia)) (wpS_bind (zaI (arr:=a) (i:=i') (zaE (by lia)) ?_)))
   refine wpS_bind (t_lt T rfl (db _ (zbj (by lia))) (da _ (zbj (by lia))) ?_)
   by_cases lt:key (el b j')<key (el a i')
   ·rw [decide_eq_true lt]
    refine zae (fun _=>?_) (fun z=>absurd rfl z)
    refine wpS_bind (zaI (arr:=a) (i:=i') (zaE (by lia)) ?_)
    have h2:=pushA h' (by lia) fun y hy=>by
     obtain ⟨t,t1,t2,rfl⟩:=zgW hy
     have:=zbY sb (show t<=j' by lia) (by lia)
     lia
    refine zae (fun c=>wpS_pure ⟨rfl,.inl ⟨_,rfl,done0 _ _ _ h2 (eq_of_beq c)⟩⟩) (fun c=>?_)
    have c:i'≠0:=fun z=>c (beq_iff_eq.mpr z)
    exact zae (fun _=>wpS_pure ⟨rfl,.inr ⟨_,i',j'+1,_,_,rfl,h2,by lia,by lia,by lia,by lia,by lia⟩⟩) (fun _=>wpS_pure ⟨_,i',j'+1,_,_,rfl,rfl,h2,by lia,by lia,by lia,by lia,by rw [if_neg (by lia)];lia⟩)
   ·rw [decide_eq_false lt]
    refine zae (fun z=>nomatch z) (fun _=>?_)
    refine wpS_bind (zaI (arr:=b) (i:=j') (zaE (by lia)) ?_)
    have h2:=pushB h' (by lia) fun y hy=>by
     obtain ⟨t,t1,t2,rfl⟩:=zgW hy
     have:=zbY sa (show t<=i' by lia) (by lia)
     lia
    refine zae (fun c=>wpS_pure ⟨rfl,.inl ⟨_,rfl,firstB _ _ _ h2 (eq_of_beq c)⟩⟩) (fun c=>?_)
    have c:j'≠1:=fun z=>c (beq_iff_eq.mpr z)
    exact zae (fun _=>wpS_pure ⟨rfl,.inr ⟨_,i'+1,j',_,_,rfl,h2,by lia,by lia,by lia,by lia,by lia⟩⟩) (fun _=>wpS_pure ⟨_,i'+1,j',_,_,rfl,rfl,h2,by lia,by lia,by lia,by lia,by rw [if_neg (by lia)];lia⟩)
  case post =>
   rintro ⟨c1,c2⟩ st' ⟨rfl,z⟩
   rcases z with ⟨R,e,hR⟩ | ⟨o,i',j',ac,bc,e,h',r1,r2,r3,r4,r5⟩
   ·obtain rfl:c1=some R:=e
    exact wpS_pure ⟨R,g',rfl,rfl,hR⟩
   cases e
   refine wpS_bind (wpS_lift (wpAny_rule ⟨rfl,?_⟩))
   refine wpS_bind (wpS_forRange (I:=fun y c st'=>∃ (o:Array Keyed) (u v m ac bc g':Nat),c=(none,u,v,o,m,ac,bc)/\st'=SS κ arr pend g'/\HI key a.toList b.toList o.toList.reverse u v/\0<u/\u<=a.size/\1<v/\v<=b.size/\u+v+1<=i+j)
    (Q:=fun c st'=>∃ g',st'=SS κ arr pend g'/\((∃ R:Array Keyed,c.1=some R/\Mrg key a.toList b.toList R.toList)\/∃ (o:Array Keyed) (u v m ac bc:Nat),c=(none,u,v,o,m,ac,bc)/\HI key a.toList b.toList o.toList.reverse u v/\0<u/\u<=a.size/\1<v/\v<=b.size/\u+v+1<=i+j)) ?step ?fin ⟨_,i',j',_,_,_,g',rfl,rfl,h',r1,r2,r3,r4,r5⟩ |> (wpS_mono · ?post))
   case fin =>
    rintro c st' ⟨o,u,v,m,ac,bc,g',rfl,rfl,h',r1,r2,r3,r4,r5⟩
    exact ⟨g',rfl,.inr ⟨o,u,v,m,ac,bc,rfl,h',r1,r2,r3,r4,r5⟩⟩
   case post =>
    rintro ⟨c1,c2⟩ st' ⟨g',rfl,z⟩
    rcases z with ⟨R,e,hR⟩ | ⟨o,u,v,m,ac,bc,e,h',r1,r2,r3,r4,r5⟩
    ·obtain rfl:c1=some R:=e
     exact wpS_pure ⟨R,g',rfl,rfl,hR⟩
    cases e
    refine wpS_bind (wpS_modify (wpS_pure ⟨_,u,v,_,_,rfl,rfl,h',r1,r2,r3,r4,by lia⟩))
   case step =>
    rintro y c st' _ hy ⟨o,u,v,m,ac,bc,g',rfl,rfl,h',r1,r2,r3,r4,r5⟩
    obtain ⟨v,rfl⟩ : ∃ t,v=t+1:=⟨v-1,by lia⟩
    have vb:v<b.size:=by lia
    have xa:∀ t,t<u->a[0+t]?=some (el a (0+t))/\D (el a (0+t)):=fun t ht=>⟨zaE (by lia),da _ (zbj (by lia))⟩
    refine zae (fun _=>?_) (fun _=>?_)
    all_goals
     refine wpS_bind (wpS_modify ?_)
     refine wpS_bind (zaI (arr:=b) (i:=v) (zaE vb) ?_)
     refine wpS_bind (ze0 (l:=false) (k:=el b v) (arr:=a) (b:=0) (n:=u) (h:=u-1) T rfl (db _ (zbj vb)) (fun t=>el a (0+t)) xa (by lia) (fun i j hij hj=>zbY sa (by lia) (by lia)) fun k k1 k2 k3=>?_)
     have hA:HI key a.toList b.toList (o++(a.extract k u).reverse).toList.reverse k (v+1):=by
      rw [Array.toList_append,List.reverse_append,Array.toList_reverse,List.reverse_reverse,zmX]
      refine h'.takeX sa k1 fun x hx y hy=>?_
      obtain ⟨t,t1,t2,t3,rfl⟩:=zlj hx
      obtain ⟨t',t1',t2',rfl⟩:=zgW hy
      have:=zja.mp (k3 t t1 t2)
      rw [Nat.zero_add] at this
      have:=zbY sb (show t'<=v by lia) (by lia)
      lia
     have hB:∀ {o:Array Keyed},HI key a.toList b.toList o.toList.reverse k (v+1)->HI key a.toList b.toList (o.push (el b v)).toList.reverse k v:=fun h=>pushB h vb fun y hy=>by
      obtain ⟨t,t1,t2,rfl⟩:=zgW hy
      have:=zlS.mp (k2 t t1)
      rw [Nat.zero_add] at this
      exact this
     refine zae (fun ck=>?_) (fun ck=>?_)
     refine zae (fun c=>wpS_pure ⟨_,rfl,.inl ⟨_,rfl,done0 _ _ _ hA (eq_of_beq c)⟩⟩) (fun c=>?_)
     have c:k≠0:=fun z=>c (beq_iff_eq.mpr z)
     let p:=k
     have hp:0<p/\p<=u:=by show 0<k/\k<=u;lia
     let O:=(o++(a.extract k u).reverse).push (el b v)
     have hO:HI key a.toList b.toList O.toList.reverse p v:=hB hA
     rotate_left
     have k0:k=u:=by have : ¬ u-k>0:=ck;lia
     subst k0
     let p:=k
     have hp:0<p/\p<=k:=⟨r1,Nat.le_refl _⟩
     let O:=o.push (el b v)
     have hO:HI key a.toList b.toList O.toList.reverse p v:=hB h'
     all_goals
      refine wpS_bind (zaI (arr:=b) (i:=v) (zaE vb) ?_)
      refine zae (fun c=>wpS_pure ⟨_,rfl,.inl ⟨_,rfl,firstB O p v hO (eq_of_beq c)⟩⟩) (fun c=>?_)
      have c:v≠1:=fun z=>c (beq_iff_eq.mpr z)
      have xb:∀ t,t<v->b[0+t]?=some (el b (0+t))/\D (el b (0+t)):=fun t ht=>⟨zaE (by lia),db _ (zbj (by lia))⟩
      have pl:p-1<a.size:=by lia
      refine wpS_bind (zaI (arr:=a) (i:=p-1) (zaE pl) ?_)
      refine wpS_bind (ze0 (l:=true) (k:=el a (p-1)) (arr:=b) (b:=0) (n:=v) (h:=v-1) T rfl (da _ (zbj pl)) (fun t=>el b (0+t)) xb (by lia) (fun i j hij hj=>zbY sb (by lia) (by lia)) fun k' e1 e2 e3=>?_)
      have hC:HI key a.toList b.toList (O++(b.extract k' v).reverse).toList.reverse p k':=by
       rw [Array.toList_append,List.reverse_append,Array.toList_reverse,List.reverse_reverse,zmX]
       refine hO.takeY sb e1 fun x hx y hy=>?_
       obtain ⟨t,t1,t2,t3,rfl⟩:=zlj hx
       obtain ⟨t',t1',t2',rfl⟩:=zgW hy
       have:=zi8.mp (e3 t t1 t2)
       rw [Nat.zero_add] at this
       have:=zbY sa (show t'<=p-1 by lia) (by lia)
       lia
      have hD:∀ {o:Array Keyed},HI key a.toList b.toList o.toList.reverse p k'->HI key a.toList b.toList (o.push (el a (p-1))).toList.reverse (p-1) k':=fun h=>by
       refine pushA ?_ pl fun y hy=>?_
       ·rw [show p-1+1=p by lia];exact h
       ·obtain ⟨t,t1,t2,rfl⟩:=zgW hy
        have:=zlI.mp (e2 t t1)
        rw [Nat.zero_add] at this
        lia
      refine zae (fun ck'=>?_) (fun ck'=>?_)
      ·refine zae (fun c=>wpS_pure ⟨_,rfl,.inl ⟨_,rfl,firstB _ _ _ hC (eq_of_beq c)⟩⟩) (fun c1'=>?_)
       have c1':k'≠1:=fun z=>c1' (beq_iff_eq.mpr z)
       refine zae (fun c=>wpS_pure ⟨_,rfl,.inl ⟨_,rfl,done1 _ _ _ hC (eq_of_beq c)⟩⟩) (fun c2'=>?_)
       have c2':k'≠0:=fun z=>c2' (beq_iff_eq.mpr z)
       refine wpS_bind (zaI (arr:=a) (i:=p-1) (zaE pl) ?_)
       refine zae (fun c=>wpS_pure ⟨_,rfl,.inl ⟨_,rfl,done0 _ _ _ (hD hC) (eq_of_beq c)⟩⟩) (fun c''=>?_)
       have c'':p-1≠0:=fun z=>c'' (beq_iff_eq.mpr z)
       refine zae (fun _=>wpS_pure ⟨_,rfl,.inr ⟨_,p-1,k',_,_,_,rfl,hD hC,by lia,by lia,by lia,by lia,by lia⟩⟩) (fun _=>wpS_pure ⟨_,p-1,k',_,_,_,_,rfl,rfl,hD hC,by lia,by lia,by lia,by lia,by lia⟩)
      ·have k0':k'=v:=by have : ¬ v-k' > 0:=ck';lia
       have hE:HI key a.toList b.toList (O.push (el a (p-1))).toList.reverse (p-1) v:=by
        rw [<- k0']
        refine hD ?_
        rw [k0'];exact hO
       refine wpS_bind (zaI (arr:=a) (i:=p-1) (zaE pl) ?_)
       refine zae (fun c=>wpS_pure ⟨_,rfl,.inl ⟨_,rfl,done0 _ _ _ hE (eq_of_beq c)⟩⟩) (fun c''=>?_)
       have c'':p-1≠0:=fun z=>c'' (beq_iff_eq.mpr z)
       refine zae (fun _=>wpS_pure ⟨_,rfl,.inr ⟨_,p-1,v,_,_,_,rfl,hE,by lia,by lia,by lia,by lia,by lia⟩⟩) (fun _=>wpS_pure ⟨_,p-1,v,_,_,_,_,rfl,rfl,hE,by lia,by lia,by lia,by lia,by lia⟩)
end
def zjb:Nat->StateT SortSt Sem Bool:=sortPriv% PySem.Builtin.mergeAt
theorem zjn:zjb=mergeAt':=rfl
theorem seg_at {arr:Array Keyed}{P a T:List Keyed}(e:arr.toList=P++(a++T)){t:Nat}(h:t<a.length) : arr[P.length+t]?=some a[t]:=by
 rw [<- Array.getElem?_toList,e,List.getElem?_append_right (by lia),show P.length+t-P.length=t by lia,List.getElem?_append_left h,List.getElem?_eq_getElem h]
theorem zbZ {arr:Array Keyed}{P a T:List Keyed}(e:arr.toList=P++(a++T)){t:Nat}(h:t<a.length) : el arr (P.length+t)=a[t]:=by
 have l:P.length+t<arr.size:=by rw [<- Array.length_toList,e,List.length_append,List.length_append];lia
 have:=zaE l
 rw [seg_at e h] at this
 exact (Option.some.inj this).symm
theorem zib (o:Nat) : ∀ (R M P S:List Keyed) (n:Nat) (arr:Array Keyed),arr.toList=P++(M++S)->M.length=R.length->P.length=o+n ->
  ((R.zipIdx n).foldl (fun a x=>match x with | (p,j)=>a.setIfInBounds (o+j) p) arr).toList=P++(R++S)
 | [],M,P,S,n,arr,e,hm,_=>by
  have:M=[]:=List.eq_nil_of_length_eq_zero hm
  rw [this] at e
  exact e
 | r::R,[],P,S,n,arr,e,hm,_=>by cases hm
 | r :: R, m :: M, P, S, n, arr, e, hm, hp => by
  rw [List.zipIdx_cons,List.foldl_cons]
  have e2:(arr.setIfInBounds (o+n) r).toList=(P++[r])++(M++S):=by
   rw [Array.toList_setIfInBounds,e,<- hp,List.set_append_right _ _ (Nat.le_refl _),Nat.sub_self,List.cons_append,List.set_cons_zero,List.append_assoc]
   rfl
  rw [zib o R M (P++[r]) S (n+1) _ e2 (by simpa using hm) (by rw [List.length_append,List.length_singleton];lia),List.append_assoc]
  rfl
section
variable {prog:Program}{w:World}{A:Around}{E:Value->Shared->Prop}{s:Shared}{κ:SortKind}{key:Keyed->Int}{D:Keyed->Prop}
theorem zma {σ:Type}{M:Model}{x:σ}{Q:PUnit->σ->Prop}{st:σ}(h:Q ⟨⟩ x) : wpS M A E s (set x:StateT σ Sem PUnit) Q st:=by
 unfold wpS;rw [StateT.run_set];exact wpAny_pure ⟨rfl,h⟩
theorem zif {a:List Keyed}(h:Srt key a){i j:Nat}(hij:i<=j)(hj:j<a.length) : key (a[i]'(by lia))<=key a[j]:=by
 rcases Nat.lt_or_ge i j with q | q
 ·exact List.pairwise_iff_getElem.mp h i j (by lia) hj q
 ·have:i=j:=by lia
  subst this;exact Int.le_refl _
theorem zkn {i:Nat}{arr:Array Keyed}{pend:Array (Nat×Nat×Nat)}{g pw pw2:Nat}{P a b S:List Keyed}{Q:Bool->SortSt->Prop}(T:Tells prog w A s κ key D)(e:arr.toList=P++(a++(b++S)))(da:∀ x∈a,D x)(db:∀ x∈b,D x)(sa:Srt key a)(sb:Srt key b)(na:a≠[])(nb:b≠[])
  (h1:pend[i]?=some (P.length,a.length,pw)) (h2:pend[i+1]?=some (P.length+a.length,b.length,pw2))
  (hq:∀ (arr':Array Keyed) (c:List Keyed) (g':Nat),arr'.toList=P++(c++S)->c.Perm (a++b)->Srt key c->Q true (SS κ arr' ((pend.setIfInBounds i (P.length,a.length+b.length,pw)).eraseIdxIfInBounds (i+1)) g')) :
  wpS (model prog w) A E s (zjb i) Q (SS κ arr pend g):=by
 have la:0<a.length:=List.length_pos_iff.mpr na
 have lb:0<b.length:=List.length_pos_iff.mpr nb
 have e':arr.toList=(P++a)++(b++S):=by rw [e,List.append_assoc]
 have lP:(P++a).length=P.length+a.length:=List.length_append
 have sz:arr.size=P.length+(a.length+(b.length+S.length)):=by rw [<- Array.length_toList,e,List.length_append,List.length_append,List.length_append]
 have same:∀ {c:List Keyed},Srt key (a++b)->c=a++b->∀ g',Q true (SS κ arr ((pend.setIfInBounds i (P.length,a.length+b.length,pw)).eraseIdxIfInBounds (i+1)) g'):=fun {c} h _ g'=>hq arr (a++b) g' (by rw [e,List.append_assoc]) (List.Perm.refl _) h
 unfold zjb
 refine wpS_bind (wpS_get ?_)
 show wpS _ _ _ _ (match (pend[i]?,pend[i+1]?) with | (some (sa,na,power),some (sb,nb,snd))=>_ | x=>_) _ _
 rw [h1,h2]
 refine wpS_bind (zma ?_)
 have b0:arr[P.length+a.length]?=some b[0]:=by rw [<- lP];exact seg_at (t:=0) e' lb
 refine wpS_bind (zaI (arr:=arr) (i:=P.length+a.length) b0 ?_)
 refine wpS_bind (ze0 (l:=false) (k:=b[0]) (arr:=arr) (b:=P.length) (n:=a.length) (h:=0) T rfl (db _ (List.getElem_mem lb)) (fun t=>el arr (P.length+t)) (fun t ht=>⟨by rw [zbZ e ht];exact seg_at e ht,by rw [zbZ e ht];exact da _ (List.getElem_mem ht)⟩) la (fun i j hij hj=>by rw [zbZ e (by lia),zbZ e hj];exact zif sa hij hj) fun k k1 k2 k3=>?_)
 have pre:∀ x∈a.take k,key x<=key b[0]:=fun x hx=>by
  obtain ⟨t,ht,rfl⟩:=List.mem_iff_getElem.mp hx
  rw [List.length_take] at ht
  have:=zlS.mp (k2 t (by lia))
  rw [zbZ e (by lia)] at this
  rw [List.getElem_take]
  exact this
 have mid:∀ x∈a.drop k,key b[0]<=key x:=fun x hx=>by
  obtain ⟨t,ht,rfl⟩:=List.mem_iff_getElem.mp hx
  rw [List.length_drop] at ht
  have:=zja.mp (k3 (k+t) (by lia) (by lia))
  rw [zbZ e (by lia)] at this
  rw [List.getElem_drop]
  lia
 have bge:∀ x∈b,key b[0]<=key x:=fun x hx=>by
  obtain ⟨t,ht,rfl⟩:=List.mem_iff_getElem.mp hx
  exact zif sb (Nat.zero_le t) ht
 refine zae (fun c=>wpS_pure ?_) (fun c=>?_)
 ·have c:a.length-k=0:=eq_of_beq c
  have ek:a.take k=a:=List.take_of_length_le (by lia)
  rw [ek] at pre
  exact same (za4.mpr ⟨sa,sb,fun x hx y hy=>Int.le_trans (pre x hx) (bge y hy)⟩) rfl _
 have c:a.length-k≠0:=fun z=>c (beq_iff_eq.mpr z)
 have alast:a.length-1<a.length:=by lia
 have ea:arr[P.length+k+(a.length-k)-1]?=some a[a.length-1]:=by
  rw [show P.length+k+(a.length-k)-1=P.length+(a.length-1) by lia]
  exact seg_at e alast
 refine wpS_bind (zaI (arr:=arr) (i:=P.length+k+(a.length-k)-1) ea ?_)
 refine wpS_bind (ze0 (l:=true) (k:=a[a.length-1]) (arr:=arr) (b:=P.length+a.length) (n:=b.length) (h:=b.length-1) T rfl (da _ (List.getElem_mem alast)) (fun t=>el arr ((P++a).length+t)) (fun t ht=>⟨by rw [zbZ e' ht,<- lP];exact seg_at e' ht,by rw [zbZ e' ht];exact db _ (List.getElem_mem ht)⟩) (by lia) (fun i j hij hj=>by rw [zbZ e' (by lia),zbZ e' hj];exact zif sb hij hj) fun m m1 m2 m3=>?_)
 have low:∀ x∈b.take m,key x<=key a[a.length-1]:=fun x hx=>by
  obtain ⟨t,ht,rfl⟩:=List.mem_iff_getElem.mp hx
  rw [List.length_take] at ht
  have:=zlI.mp (m2 t (by lia))
  rw [zbZ e' (by lia)] at this
  rw [List.getElem_take]
  lia
 have suf:∀ x∈b.drop m,key a[a.length-1]<=key x:=fun x hx=>by
  obtain ⟨t,ht,rfl⟩:=List.mem_iff_getElem.mp hx
  rw [List.length_drop] at ht
  have:=zi8.mp (m3 (m+t) (by lia) (by lia))
  rw [zbZ e' (by lia)] at this
  rw [List.getElem_drop]
  exact this
 have ale:∀ x∈a,key x<=key a[a.length-1]:=fun x hx=>by
  obtain ⟨t,ht,rfl⟩:=List.mem_iff_getElem.mp hx
  exact zif sa (by lia) alast
 refine zae (fun c=>wpS_pure ?_) (fun c'=>?_)
 ·have c:m=0:=eq_of_beq c
  rw [c,List.drop_zero] at suf
  exact same (za4.mpr ⟨sa,sb,fun x hx y hy=>Int.le_trans (ale x hx) (suf y hy)⟩) rfl _
 have c':m≠0:=fun z=>c' (beq_iff_eq.mpr z)
 have ex:(arr.extract (P.length+k) (P.length+a.length)).toList=a.drop k:=by
  rw [Array.toList_extract,List.extract_eq_drop_take,e,<- List.drop_drop,List.drop_left,List.drop_append_of_le_length k1,show P.length+a.length-(P.length+k)=a.length-k by lia,List.take_append_of_le_length (by rw [List.length_drop];exact Nat.le_refl _),List.take_of_length_le (by rw [List.length_drop];exact Nat.le_refl _)]
 have ey:(arr.extract (P.length+a.length) (P.length+a.length+m)).toList=b.take m:=by
  rw [Array.toList_extract,List.extract_eq_drop_take,e',<- lP,List.drop_left,show (P++a).length+m-(P++a).length=m by lia,List.take_append_of_le_length m1]
 have fin:∀ (R:Array Keyed) (g':Nat),Mrg key (arr.extract (P.length+k) (P.length+a.length)).toList (arr.extract (P.length+a.length) (P.length+a.length+m)).toList R.toList ->
   Q true (SS κ (R.toList.zipIdx.foldl (fun a x=>match x with | (p,j)=>a.setIfInBounds (P.length+k+j) p) arr) ((pend.setIfInBounds i (P.length,a.length+b.length,pw)).eraseIdxIfInBounds (i+1)) g'):=by
  intro R g' hR
  rw [ex,ey] at hR
  obtain ⟨pR,sR⟩:=hR
  have lR:(a.drop k++b.take m).length=R.toList.length:=pR.length_eq.symm
  refine hq _ (a.take k++(R.toList++b.drop m)) g' ?_ ?_ ?_
  ·have:=zib (P.length+k) R.toList (a.drop k++b.take m) (P++a.take k) (b.drop m++S) 0 arr (by
    have h1:b=b.take m++b.drop m:=(List.take_append_drop m b).symm
    have h2:a=a.take k++a.drop k:=(List.take_append_drop k a).symm
    rw [e]
    conv=>lhs;rw [h1,h2]
    simp only [List.append_assoc]) lR (by rw [List.length_append,List.length_take];lia)
   rw [this]
   simp only [List.append_assoc]
  ·have p1:(a.take k++(R.toList++b.drop m)).Perm (a.take k++((a.drop k++b.take m)++b.drop m)):=List.Perm.append_left _ (List.Perm.append_right _ pR)
   refine p1.trans ?_
   have:a.take k++((a.drop k++b.take m)++b.drop m)=a++b:=by
    rw [List.append_assoc,List.take_append_drop,<- List.append_assoc,List.take_append_drop]
   rw [this]
  ·have inR:∀ x∈R.toList,x∈a.drop k\/x∈b.take m:=fun x hx=>List.mem_append.mp (pR.mem_iff.mp hx)
   refine za4.mpr ⟨zbo sa k,za4.mpr ⟨sR,zbk sb m,fun x hx y hy=>?_⟩,fun x hx y hy=>?_⟩
   ·have:=suf y hy
    rcases inR x hx with q | q
    ·exact Int.le_trans (ale x (List.mem_of_mem_drop q)) this
    ·exact Int.le_trans (low x q) this
   ·have:=pre x hx
    rcases List.mem_append.mp hy with q | q
    ·rcases inR y q with q | q
     ·exact Int.le_trans this (mid y q)
     ·exact Int.le_trans this (bge y (List.mem_of_mem_take q))
    ·exact Int.le_trans this (bge y (List.mem_of_mem_drop q))
 have sx:(arr.extract (P.length+k) (P.length+a.length)).size=a.length-k:=by rw [<- Array.length_toList,ex,List.length_drop]
 have sy:(arr.extract (P.length+a.length) (P.length+a.length+m)).size=m:=by rw [<- Array.length_toList,ey,List.length_take];lia
 have fst:∀ x∈(arr.extract (P.length+k) (P.length+a.length)).toList,key (el (arr.extract (P.length+a.length) (P.length+a.length+m)) 0)<=key x:=by
  intro x hx
  rw [ex] at hx
  have:el (arr.extract (P.length+a.length) (P.length+a.length+m)) 0=b[0]:=by
   have:=zbP (xs:=arr.extract (P.length+a.length) (P.length+a.length+m)) (i:=0) (by lia)
   rw [ey,List.getElem?_take_of_lt (by lia),List.getElem?_eq_getElem lb] at this
   exact (Option.some.inj this).symm
  rw [this]
  exact mid x hx
 have lst:∀ x∈(arr.extract (P.length+a.length) (P.length+a.length+m)).toList,key x<=key (el (arr.extract (P.length+k) (P.length+a.length)) ((arr.extract (P.length+k) (P.length+a.length)).size-1)):=by
  intro x hx
  rw [ey] at hx
  have:el (arr.extract (P.length+k) (P.length+a.length)) ((arr.extract (P.length+k) (P.length+a.length)).size-1)=a[a.length-1]:=by
   have:=zbP (xs:=arr.extract (P.length+k) (P.length+a.length)) (i:=(arr.extract (P.length+k) (P.length+a.length)).size-1) (by lia)
   rw [ex,sx,List.getElem?_drop,show k+(a.length-k-1)=a.length-1 by lia,List.getElem?_eq_getElem alast] at this
   rw [sx]
   exact (Option.some.inj this).symm
  rw [this]
  exact low x hx
 have dx:∀ x∈(arr.extract (P.length+k) (P.length+a.length)).toList,D x:=fun x hx=>by rw [ex] at hx;exact da x (List.mem_of_mem_drop hx)
 have dy:∀ x∈(arr.extract (P.length+a.length) (P.length+a.length+m)).toList,D x:=fun x hx=>by rw [ey] at hx;exact db x (List.mem_of_mem_take hx)
 have ssx:Srt key (arr.extract (P.length+k) (P.length+a.length)).toList:=by rw [ex];exact zbk sa k
 have ssy:Srt key (arr.extract (P.length+a.length) (P.length+a.length+m)).toList:=by rw [ey];exact zbo sb m
 have px:0<(arr.extract (P.length+k) (P.length+a.length)).size:=by rw [sx];lia
 have py:0<(arr.extract (P.length+a.length) (P.length+a.length+m)).size:=by rw [sy];lia
 refine zae (fun _=>?_) (fun _=>?_)
 ·exact wpS_bind (zk3 T dx dy ssx ssy px py fst lst fun R g' hR=>wpS_bind (wpS_modify (wpS_bind (wpS_get (wpS_pure (fin R g' hR))))))
 ·exact wpS_bind (zks T dx dy ssx ssy px py fst lst fun R g' hR=>wpS_bind (wpS_modify (wpS_bind (wpS_get (wpS_pure (fin R g' hR))))))
end
def kx (key:Keyed->Int)(lo:Nat)(arr:Array Keyed)(i:Nat) : Int:=key (el arr (lo+i))
def UpTo (key:Keyed->Int)(lo:Nat)(arr:Array Keyed)(n:Nat) : Prop:=∀ i j,i<=j->j<n->kx key lo arr i<=kx key lo arr j
def DnTo (key:Keyed->Int)(lo:Nat)(arr:Array Keyed)(n:Nat) : Prop:=∀ i j,i<=j->j<n->kx key lo arr j<=kx key lo arr i
structure Kept (lo:Nat) (a arr:Array Keyed) : Prop where
 perm:arr.toList.Perm a.toList
 low:∀ i,i<lo->arr[i]?=a[i]?
theorem Kept.refl (lo:Nat)(a:Array Keyed) : Kept lo a a:=⟨List.Perm.refl _,fun _ _=>rfl⟩
theorem Kept.size {lo:Nat}{a arr:Array Keyed}(h:Kept lo a arr) : arr.size=a.size:=by
 have:=h.perm.length_eq
 rwa [Array.length_toList,Array.length_toList] at this
theorem zjx (xs:Array Keyed)(i:Nat) : el xs i=(xs[i]?).getD (.none,.none):=by unfold el;rw [Array.getD_eq_getD_getElem?]
def turn (xs:Array Keyed)(i j:Nat) : Array Keyed:=mirror xs i j ((j-i) / 2)
theorem zlW {xs:Array Keyed}{i j:Nat}(hj:j<=xs.size)(k:Nat) : el (turn xs i j) k=if i<=k/\k<j then el xs (i+j-1-k) else el xs k:=by
 unfold turn
 rw [zjx,getElem?_mirror_all hj]
 split<;>rw [zjx]
theorem Kept.turn {lo i j:Nat}{a arr:Array Keyed}(h:Kept lo a arr)(hi:lo<=i)(hj:j<=arr.size) : Kept lo a (turn arr i j) :=
 ⟨(Array.perm_iff_toList_perm.mp (mirror_perm arr i j _)).trans h.perm,fun k hk=>by unfold Wr.turn;rw [getElem?_mirror_all hj,if_neg (by lia)];exact h.low k hk⟩
theorem zjF {key:Keyed->Int}{lo i j:Nat}{xs:Array Keyed}(hj:lo+j<=xs.size)(k:Nat) : kx key lo (turn xs (lo+i) (lo+j)) k=if i<=k/\k<j then kx key lo xs (i+j-1-k) else kx key lo xs k:=by
 unfold kx
 rw [zlW hj]
 by_cases c:i<=k/\k<j
 ·rw [if_pos (by lia),if_pos c]
  congr 2;lia
 ·rw [if_neg (by lia),if_neg c]
theorem zco {key:Keyed->Int}{lo i j:Nat}{xs:Array Keyed}(hj:lo+j<=xs.size)(he:∀ k,i<=k->k<j->kx key lo xs k=kx key lo xs (j-1))(k:Nat) : kx key lo (turn xs (lo+i) (lo+j)) k=kx key lo xs k:=by
 rw [zjF hj]
 split
 ·rw [he _ (by lia) (by lia),he k (by lia) (by lia)]
 ·rfl
section
variable {prog:Program}{w:World}{A:Around}{E:Value->Shared->Prop}{s:Shared}{κ:SortKind}{key:Keyed->Int}{D:Keyed->Prop}{a₀ arr:Array Keyed}{pend:Array (Nat×Nat×Nat)}{g lo:Nat}
theorem zh7 {i j:Nat}{Q:Unit->SortSt->Prop}(h:Q () (SS κ (turn arr i j) pend g)) : wpS (model prog w) A E s (reverseSlice' i j) Q (SS κ arr pend g):=by
 rw [reverseSlice'_eq];exact wpS_modify h
theorem t_at {i j:Nat}{Q:Option Bool->SortSt->Prop}(T:Tells prog w A s κ key D)(hD:∀ x∈arr.toList,D x)(hi:i<arr.size)(hj:j<arr.size)(h:Q (some (decide (key (el arr i)<key (el arr j)))) (SS κ arr pend g)) : wpS (model prog w) A E s (ltAt' i j) Q (SS κ arr pend g):=by
 rw [ltAt'_eq]
 refine wpS_bind (wpS_get ?_)
 exact wpS_bind (zaI (arr:=arr) (zaE hi) (wpS_bind (zaI (arr:=arr) (zaE hj) (t_lt T rfl (hD _ (zbj hi)) (hD _ (zbj hj)) h))))
theorem ziv {p q:Nat}(i j:Nat){Q:Option Bool->SortSt->Prop}(T:Tells prog w A s κ key D)(hD:∀ x∈arr.toList,D x)(ei:p=lo+i)(ej:q=lo+j)(hi:lo+i<arr.size)(hj:lo+j<arr.size)(ht:kx key lo arr i<kx key lo arr j->Q (some true) (SS κ arr pend g))(hf:kx key lo arr j<=kx key lo arr i->Q (some false) (SS κ arr pend g)) : wpS (model prog w) A E s (ltAt' p q) Q (SS κ arr pend g):=by
 subst ei ej
 refine t_at T hD hi hj ?_
 by_cases h:kx key lo arr i<kx key lo arr j
 ·rw [show decide (key (el arr (lo+i))<key (el arr (lo+j)))=true from decide_eq_true h]
  exact ht h
 ·rw [show decide (key (el arr (lo+i))<key (el arr (lo+j)))=false from decide_eq_false h]
  exact hf (Int.not_lt.mp h)
theorem zlL {nrem : Nat}{Q : Option Nat → SortSt → Prop}(T : Tells prog w A s κ key D)(hD : ∀ x ∈ arr.toList, D x)(h1 : 1 ≤ nrem)(hz : lo + nrem ≤ arr.size)
  (hq:∀ m arr',Kept lo arr arr'->1<=m->m<=nrem->UpTo key lo arr' m->Q (some m) (SS κ arr' pend g)) : wpS (model prog w) A E s (countRun' lo nrem) Q (SS κ arr pend g):=by
 have up1:UpTo key lo arr 1:=fun i j hij hj=>by
  have:i=j:=by lia
  subst this;exact Int.le_refl _
 unfold countRun'
 refine wpS_bind (wpS_forRange (I:=fun x c st'=>st'=SS κ arr pend g/\c=(none,x)/\UpTo key lo arr x)
  (Q:=fun c st'=>st'=SS κ arr pend g/\∃ n,c=(none,n)/\1<=n/\n<=nrem/\UpTo key lo arr n/\(n=nrem\/kx key lo arr n<kx key lo arr (n-1))) ?step ?fin ⟨rfl,rfl,up1⟩ |> (wpS_mono · ?post))
 case fin =>
  rintro c st' ⟨rfl,rfl,hs⟩
  rw [show max 1 nrem=nrem by lia] at hs ⊢
  exact ⟨rfl,nrem,rfl,h1,Nat.le_refl _,hs,.inl rfl⟩
 case step =>
  rintro x c st' hx1 hx ⟨rfl,rfl,hs⟩
  refine wpS_bind (ziv x (x-1) T hD rfl (show lo+x-1=_ by lia) (by lia) (by lia) (fun lt=>?_) (fun ge=>?_))
  ·exact zae (fun _=>wpS_pure ⟨rfl,x,rfl,hx1,by lia,hs,.inr lt⟩) (fun z=>absurd rfl z)
  ·refine zae (fun z=>nomatch z) (fun _=>wpS_pure ⟨rfl,rfl,fun i j hij hj=>?_⟩)
   by_cases hjx:j<x
   ·exact hs i j hij hjx
   ·have hj':j=x:=by lia
    subst hj'
    by_cases hi':i=j
    ·subst hi';exact Int.le_refl _
    ·exact Int.le_trans (hs i (j-1) (by lia) (by lia)) ge
 case post =>
  rintro c st' ⟨rfl,n,rfl,n1,n2,hs,hor⟩
  refine zae (fun c=>wpS_pure (hq n arr (Kept.refl _ _) n1 n2 hs)) (fun c=>?_)
  have c:n≠nrem:=fun z=>c (beq_iff_eq.mpr z)
  have hlt:kx key lo arr n<kx key lo arr (n-1):=hor.resolve_left c
  have nsz:lo+n<=arr.size:=by lia
  refine zae (fun c1=>?_) (fun c1=>?_)
  have c1:n>1:=c1
  refine wpS_bind (ziv 0 (n-1) T hD rfl (show lo+n-1=_ by lia) (by lia) (by lia) (fun _=>?_) (fun rose=>?_))
  ·exact zae (fun _=>wpS_pure (hq n arr (Kept.refl _ _) n1 n2 hs)) (fun z=>absurd rfl z)
  refine zae (fun z=>nomatch z) (fun _=>?_)
  refine wpS_bind (zh7 ?_)
  have hall:∀ k,0<=k->k<n->kx key lo arr k=kx key lo arr (n-1):=by
   intro k _ hk
   have a1:=hs 0 k (by lia) hk
   have a2:=hs k (n-1) (by lia) (by lia)
   lia
  have hK:Kept lo arr (turn arr lo (lo+n)):=(Kept.refl lo arr).turn (Nat.le_refl _) nsz
  have hDn:DnTo key lo (turn arr lo (lo+n)) (n+1):=by
   intro i j hij hj
   have et:∀ k,kx key lo (turn arr lo (lo+n)) k=kx key lo arr k:=fun k=>zco (i:=0) nsz hall k
   rw [et,et]
   by_cases hjn:j<n
   ·rw [hall i (by lia) (by lia),hall j (by lia) hjn];exact Int.le_refl _
   ·have hj':j=n:=by lia
    subst hj'
    by_cases hi':i=j
    ·subst hi';exact Int.le_refl _
    ·rw [hall i (by lia) (by lia)];exact Int.le_of_lt hlt
  generalize turn arr lo (lo+n)=ar at hK hDn ⊢
  rotate_left
  have hDn:DnTo key lo arr (n+1):=by
   have c1 : ¬ n>1:=c1
   intro i j hij hj
   by_cases hi':i=j
   ·subst hi';exact Int.le_refl _
   ·have hi0:i=0:=by lia
    have hj1:j=1:=by lia
    have en:n=1:=by lia
    subst hi0 hj1 en
    exact Int.le_of_lt hlt
  have hK:Kept lo arr arr:=Kept.refl lo arr
  obtain ⟨ar,ea⟩ : ∃ x,x=arr:=⟨_,rfl⟩
  rw [<- ea]
  rw [<- ea] at hDn
  have hK:Kept lo arr ar:=by rw [ea];exact hK
  all_goals
   refine wpS_bind (wpS_lift (wpAny_rule ⟨rfl,?_⟩))
   refine wpS_bind (wpS_forRange (I:=fun x c st'=>∃ ar neq,c=(none,x,neq)/\st'=SS κ ar pend g/\Kept lo arr ar/\DnTo key lo ar x/\neq+1<=x/\(∀ i,x-(neq+1)<=i->i<x->kx key lo ar i=kx key lo ar (x-1)))
    (Q:=fun c st'=>∃ ar x neq,c=(none,x,neq)/\st'=SS κ ar pend g/\Kept lo arr ar/\n+1<=x/\x<=nrem/\DnTo key lo ar x/\neq+1<=x/\(∀ i,x-(neq+1)<=i->i<x->kx key lo ar i=kx key lo ar (x-1))) ?_ ?_ ⟨ar,0,rfl,rfl,hK,hDn,by lia,fun i h1 h2=>by congr 1;lia⟩ |> (wpS_mono · ?_))
   ·rintro c st' ⟨ar,x,neq,rfl,rfl,hK,x1,x2,hDn,q1,q2⟩
    have sz:=hK.size
    have e1:lo+x-(neq+1)=lo+(x-(neq+1)):=by lia
    refine zae (fun hn=>?_) (fun hn=>?_)
    refine wpS_bind (zh7 ?_)
    have hK2:Kept lo arr (turn ar (lo+x-(neq+1)) (lo+x)):=hK.turn (by lia) (by lia)
    have hDn2:DnTo key lo (turn ar (lo+x-(neq+1)) (lo+x)) x:=by
     intro i j hij hj
     rw [e1,zco (by lia) q2,zco (by lia) q2]
     exact hDn i j hij hj
    have hK:=hK2
    have hDn:=hDn2
    have sz:=hK.size
    generalize turn ar (lo+x-(neq+1)) (lo+x)=ar at hK hDn sz ⊢
    all_goals
     refine wpS_bind (zh7 ?_)
     have hK3:Kept lo arr (turn ar lo (lo+x)):=hK.turn (Nat.le_refl _) (by lia)
     have hU:UpTo key lo (turn ar lo (lo+x)) x:=by
      intro i j hij hj
      have et:∀ k,kx key lo (turn ar lo (lo+x)) k=if 0<=k/\k<x then kx key lo ar (0+x-1-k) else kx key lo ar k:=fun k=>zjF (i:=0) (by lia) k
      rw [et,et,if_pos (by lia),if_pos (by lia)]
      exact hDn _ _ (by lia) (by lia)
     have sz3:=hK3.size
     have hD3:∀ y∈(turn ar lo (lo+x)).toList,D y:=fun y hy=>hD y (hK3.perm.mem_iff.mp hy)
     generalize turn ar lo (lo+x)=ar3 at hK3 hU sz3 hD3 ⊢
     refine wpS_bind (wpS_forRange (I:=fun x c st'=>st'=SS κ ar3 pend g/\c=(none,x)/\UpTo key lo ar3 x)
      (Q:=fun c st'=>st'=SS κ ar3 pend g/\∃ n,c=(none,n)/\1<=n/\n<=nrem/\UpTo key lo ar3 n) ?_ ?_ ⟨rfl,rfl,hU⟩ |> (wpS_mono · ?_))
     ·rintro c st' ⟨rfl,n,rfl,n1,n2,hs⟩
      exact wpS_pure (hq n ar3 hK3 n1 n2 hs)
     ·rintro x c st' hx1 hx ⟨rfl,rfl,hs⟩
      refine wpS_bind (ziv x (x-1) T hD3 rfl (show lo+x-1=_ by lia) (by lia) (by lia) (fun lt=>?_) (fun ge=>?_))
      ·exact zae (fun _=>wpS_pure ⟨rfl,x,rfl,by lia,by lia,hs⟩) (fun z=>absurd rfl z)
      ·refine zae (fun z=>nomatch z) (fun _=>wpS_pure ⟨rfl,rfl,fun i j hij hj=>?_⟩)
       by_cases hjx:j<x
       ·exact hs i j hij hjx
       ·have hj':j=x:=by lia
        subst hj'
        by_cases hi':i=j
        ·subst hi';exact Int.le_refl _
        ·exact Int.le_trans (hs i (j-1) (by lia) (by lia)) ge
     ·rintro c st' ⟨rfl,rfl,hs⟩
      rw [show max x nrem=nrem by lia] at *
      exact ⟨rfl,nrem,rfl,h1,Nat.le_refl _,hs⟩
   ·rintro x c st' hx1 hx ⟨ar,neq,rfl,rfl,hK,hDn,q1,q2⟩
    have sz:=hK.size
    have hD':∀ y∈ar.toList,D y:=fun y hy=>hD y (hK.perm.mem_iff.mp hy)
    refine wpS_bind (ziv x (x-1) T hD' rfl (show lo+x-1=_ by lia) (by lia) (by lia) (fun lt=>?_) (fun ge=>?_))
    ·refine zae (fun _=>?_) (fun z=>absurd rfl z)
     have step1:∀ xs:Array Keyed,(∀ k,kx key lo xs k=kx key lo ar k)->DnTo key lo xs (x+1):=by
      intro xs hk i j hij hj
      rw [hk,hk]
      by_cases hjx:j<x
      ·exact hDn i j hij hjx
      ·have hj':j=x:=by lia
       subst hj'
       by_cases hi':i=j
       ·subst hi';exact Int.le_refl _
       ·exact Int.le_trans (Int.le_of_lt lt) (hDn i (j-1) (by lia) (by lia))
     refine zae (fun hn=>?_) (fun hn=>?_)
     ·have e1:lo+x-(neq+1)=lo+(x-(neq+1)):=by lia
      refine wpS_bind (zh7 (wpS_pure ⟨_,0,rfl,rfl,hK.turn (by show lo<=lo+x-(neq+1);lia) (by show lo+x<=_;lia),?_,by lia,fun i h1 h2=>by congr 1;lia⟩))
      refine step1 _ fun k=>?_
      show kx key lo (turn ar (lo+x-(neq+1)) (lo+x)) k=_
      rw [e1]
      exact zco (by lia) q2 k
     ·exact wpS_pure ⟨ar,0,rfl,rfl,hK,step1 _ (fun _=>rfl),by lia,fun i h1 h2=>by congr 1;lia⟩
    ·refine zae (fun z=>nomatch z) (fun _=>?_)
     refine wpS_bind (ziv (x-1) x T hD' (show lo+x-1=_ by lia) rfl (by lia) (by lia) (fun lt=>?_) (fun ge'=>?_))
     ·exact zae (fun _=>wpS_pure ⟨ar,x,neq,rfl,rfl,hK,hx1,by lia,hDn,q1,q2⟩) (fun z=>absurd rfl z)
     ·refine zae (fun z=>nomatch z) (fun _=>?_)
      have heq:kx key lo ar x=kx key lo ar (x-1):=by lia
      refine wpS_pure ⟨ar,neq+1,rfl,rfl,hK,fun i j hij hj=>?_,by lia,fun i h1 h2=>?_⟩
      ·by_cases hjx:j<x
       ·exact hDn i j hij hjx
       ·have hj':j=x:=by lia
        subst hj'
        by_cases hi':i=j
        ·subst hi';exact Int.le_refl _
        ·rw [heq];exact hDn i (j-1) (by lia) (by lia)
      ·rw [show x+1-1=x by lia]
       by_cases hix:i=x
       ·subst hix;rfl
       ·rw [heq];exact q2 i (by lia) (by lia)
   ·rintro c st' ⟨ar,neq,rfl,rfl,hK,hDn,q1,q2⟩
    rw [show max (n+1) nrem=nrem by lia] at *
    exact ⟨ar,nrem,neq,rfl,rfl,hK,by lia,Nat.le_refl _,hDn,q1,q2⟩
end
theorem zmS {xs:Array Keyed}{k d:Nat}(hk:k<xs.size)(hd:d<=k)(i:Nat) : el (bubble xs k d) i=if i=k-d then el xs k else if k-d<i/\i<=k then el xs (i-1) else el xs i:=by
 rw [zjx,getElem?_bubble hk d hd]
 split
 ·rw [zjx]
 ·split<;>rw [zjx]
theorem zlA {key:Keyed->Int}{lo k l:Nat}{xs:Array Keyed}(hk:lo+k<xs.size)(hl:l<=k)(i:Nat) : kx key lo (bubble xs (lo+k) (lo+k-(lo+l))) i=if i=l then kx key lo xs k else if l<i/\i<=k then kx key lo xs (i-1) else kx key lo xs i:=by
 unfold kx
 rw [zmS hk (by lia)]
 by_cases c:i=l
 ·rw [if_pos (by lia),if_pos c]
 ·rw [if_neg (by lia),if_neg c]
  by_cases c2:l<i/\i<=k
  ·rw [if_pos (by lia),if_pos c2]
   congr 2;lia
  ·rw [if_neg (by lia),if_neg c2]
theorem Kept.bub {lo k l:Nat}{a arr:Array Keyed}(h:Kept lo a arr)(hk:lo+k<arr.size)(hl:l<=k) : Kept lo a (bubble arr (lo+k) (lo+k-(lo+l))) :=
 ⟨(Array.perm_iff_toList_perm.mp (bubble_perm arr _ _)).trans h.perm,fun i hi=>by rw [getElem?_bubble hk _ (by lia),if_neg (by lia),if_neg (by lia)];exact h.low i hi⟩
section
variable {prog:Program}{w:World}{A:Around}{E:Value->Shared->Prop}{s:Shared}{κ:SortKind}{key:Keyed->Int}{D:Keyed->Prop}{a₀ arr:Array Keyed}{pend:Array (Nat×Nat×Nat)}{g lo:Nat}
theorem zoi {i j:Nat}{Q:Unit->SortSt->Prop}(h:Q () (SS κ (bubble arr i (i-j)) pend g)) : wpS (model prog w) A E s (moveDown' i j) Q (SS κ arr pend g):=by
 rw [moveDown'_eq];exact wpS_modify h
theorem zn7 {n ok:Nat}{Q:Bool->SortSt->Prop}(T:Tells prog w A s κ key D)(hD:∀ x∈arr.toList,D x)(hz:lo+n<=arr.size)(ho:ok<=n)(up:UpTo key lo arr ok)
  (hq:∀ arr',Kept lo arr arr'->UpTo key lo arr' n->Q true (SS κ arr' pend g)) : wpS (model prog w) A E s (binarySort' lo n ok) Q (SS κ arr pend g):=by
 have up1:UpTo key lo arr (max ok 1):=fun i j hij hj=>by
  by_cases h:j<ok
  ·exact up i j hij h
  ·have:i=j:=by lia
   subst this;exact Int.le_refl _
 unfold binarySort'
 refine wpS_bind (wpS_forRange (I:=fun k c st'=>∃ ar,c=(none,())/\st'=SS κ ar pend g/\Kept lo arr ar/\UpTo key lo ar k)
  (Q:=fun c st'=>∃ ar,c=(none,())/\st'=SS κ ar pend g/\Kept lo arr ar/\UpTo key lo ar (max (max ok 1) n)) ?step ?fin ⟨arr,rfl,rfl,Kept.refl _ _,up1⟩ |> (wpS_mono · ?post))
 case fin=>exact fun c st' h=>h
 case post =>
  rintro c st' ⟨ar,rfl,rfl,hK,hU⟩
  exact wpS_pure (hq ar hK fun i j hij hj=>hU i j hij (by lia))
 case step =>
  rintro k c st' hk1 hk ⟨ar,rfl,rfl,hK,hU⟩
  have sz:=hK.size
  have hD':∀ y∈ar.toList,D y:=fun y hy=>hD y (hK.perm.mem_iff.mp hy)
  refine wpS_bind (wpS_forRange (I:=fun x c st'=>∃ l r,st'=SS κ ar pend g/\c=(none,l,r)/\l<=r/\r<=k/\r-l<=k-x/\(∀ i,i<l->kx key lo ar i<=kx key lo ar k)/\(∀ i,r<=i->i<k->kx key lo ar k<=kx key lo ar i))
   (Q:=fun c st'=>∃ l,st'=SS κ ar pend g/\c=(none,l,l)/\l<=k/\(∀ i,i<l->kx key lo ar i<=kx key lo ar k)/\(∀ i,l<=i->i<k->kx key lo ar k<=kx key lo ar i)) ?step ?fin ⟨0,k,rfl,rfl,by lia,by lia,by lia,fun i hi=>by lia,fun i h1 h2=>by lia⟩ |> (wpS_mono · ?post))
  case fin =>
   rintro c st' ⟨l,r,rfl,rfl,q1,q2,q3,q4,q5⟩
   have:l=r:=by lia
   subst this
   exact ⟨l,rfl,rfl,q2,q4,q5⟩
  case step =>
   rintro x c st' _ hx ⟨l,r,rfl,rfl,q1,q2,q3,q4,q5⟩
   refine zae (fun c=>wpS_pure ?_) (fun c=>?_)
   ·have c:l ≥ r:=c
    have:l=r:=by lia
    subst this
    exact ⟨l,rfl,rfl,q2,q4,q5⟩
   have c : ¬ l ≥ r:=c
   refine wpS_bind (ziv k ((l+r) / 2) T hD' rfl rfl (by lia) (by lia) (fun lt=>?_) (fun ge=>?_))
   ·refine zae (fun _=>wpS_pure ⟨l,(l+r) / 2,rfl,rfl,by lia,by lia,by lia,q4,fun i h1 h2=>?_⟩) (fun z=>absurd rfl z)
    exact Int.le_trans (Int.le_of_lt lt) (hU _ _ h1 h2)
   ·refine zae (fun z=>nomatch z) (fun _=>wpS_pure ⟨(l+r) / 2+1,r,rfl,rfl,by lia,by lia,by lia,fun i hi=>?_,q5⟩)
    exact Int.le_trans (hU i ((l+r) / 2) (by lia) (by lia)) ge
  case post =>
   rintro c st' ⟨l,rfl,rfl,q2,q4,q5⟩
   refine wpS_bind (zoi (i:=lo+k) (j:=lo+l) (wpS_pure ⟨_,rfl,rfl,hK.bub (by lia) q2,fun i j hij hj=>?_⟩))
   rw [zlA (by lia) q2,zlA (by lia) q2]
   by_cases ci:i=l
   ·rw [if_pos ci]
    by_cases cj:j=l
    ·rw [if_pos cj];exact Int.le_refl _
    ·rw [if_neg cj,if_pos (by lia)]
     exact q5 (j-1) (by lia) (by lia)
   ·rw [if_neg ci]
    by_cases ci2:l<i/\i<=k
    ·rw [if_pos ci2,if_neg (by lia),if_pos (by lia)]
     exact hU _ _ (by lia) (by lia)
    ·rw [if_neg ci2]
     by_cases cj:j=l
     ·rw [if_pos cj];exact q4 i (by lia)
     ·rw [if_neg cj]
      by_cases cj2:l<j/\j<=k
      ·rw [if_pos cj2];exact hU _ _ (by lia) (by lia)
      ·rw [if_neg cj2];exact hU _ _ hij (by lia)
end
def offs:Nat->List (List Keyed)->List (Nat×Nat)
 | _,[]=>[]
 | o,r::rs=>(o,r.length)::offs (o+r.length) rs
theorem zbJ:∀ (o:Nat) (rs:List (List Keyed)),(offs o rs).length=rs.length
 | _,[]=>rfl
 | o,r::rs=>by show _+1=_+1;rw [zbJ]
theorem zdP:∀ (o:Nat) (as bs:List (List Keyed)),offs o (as++bs)=offs o as++offs (o+as.flatten.length) bs
 | o,[],bs=>by show offs o bs=offs (o+0) bs;rw [Nat.add_zero]
 | o,r::rs,bs=>by
  show (o,r.length)::offs (o+r.length) (rs++bs)=(o,r.length)::(offs (o+r.length) rs++_)
  rw [zdP,List.flatten_cons,List.length_append,Nat.add_assoc]
def p2 (x:Nat×Nat×Nat) : Nat×Nat:=(x.1,x.2.1)
structure RI (key:Keyed->Int) (a₀ arr:Array Keyed) (pend:Array (Nat×Nat×Nat)) (rs:List (List Keyed)) (S:List Keyed) : Prop where
 flat:arr.toList=rs.flatten++S
 pd:pend.toList.map p2=offs 0 rs
 srt:∀ r∈rs,Srt key r/\r≠[]
 perm:arr.toList.Perm a₀.toList
theorem RI.size {key:Keyed->Int}{a₀ arr:Array Keyed}{pend:Array (Nat×Nat×Nat)}{rs:List (List Keyed)}{S:List Keyed}(h:RI key a₀ arr pend rs S) : pend.size=rs.length:=by
 have:=congrArg List.length h.pd
 rwa [List.length_map,zbJ,Array.length_toList] at this
theorem RI.asize {key:Keyed->Int}{a₀ arr:Array Keyed}{pend:Array (Nat×Nat×Nat)}{rs:List (List Keyed)}{S:List Keyed}(h:RI key a₀ arr pend rs S) : arr.size=a₀.size:=by
 have:=h.perm.length_eq
 rwa [Array.length_toList,Array.length_toList] at this
theorem zjX {key:Keyed->Int} : ∀ {rs:List (List Keyed)},(∀ r∈rs,Srt key r/\r≠[])->rs.length<=rs.flatten.length
 | [],_=>Nat.le_refl _
 | r::rs,h=>by
  have:=zjX fun x hx=>h x (List.mem_cons_of_mem _ hx)
  have:=List.length_pos_iff.mpr (h r List.mem_cons_self).2
  rw [List.flatten_cons,List.length_append,List.length_cons];lia
theorem zlg {pend:Array (Nat×Nat×Nat)}{l:List (Nat×Nat)}(h:pend.toList.map p2=l){i:Nat}{x:Nat×Nat}(hx:l[i]?=some x) : ∃ pw,pend[i]?=some (x.1,x.2,pw):=by
 rw [<- h,List.getElem?_map,Array.getElem?_toList] at hx
 cases e:pend[i]? with
 | none=>rw [e] at hx;cases hx
 | some y=>rw [e] at hx;cases hx;exact ⟨y.2.2,rfl⟩
theorem zlt {α β:Type}(f:α->β) : ∀ (l:List α) (i:Nat),(l.eraseIdx i).map f=(l.map f).eraseIdx i
 | [],_=>rfl
 | _::_,0=>rfl
 | x::l,i+1=>by show f x::(l.eraseIdx i).map f=f x::(l.map f).eraseIdx i;rw [zlt]
theorem znp {α:Type}{rs:List α}{i:Nat}(h:i+1<rs.length) : ∃ as a b bs,rs=as++(a::b::bs)/\as.length=i:=by
 refine ⟨rs.take i,rs[i],rs[i+1],rs.drop (i+2),?_,by rw [List.length_take];lia⟩
 rw [<- List.drop_eq_getElem_cons,<- List.drop_eq_getElem_cons,List.take_append_drop]
section
variable {prog:Program}{w:World}{A:Around}{E:Value->Shared->Prop}{s:Shared}{κ:SortKind}{key:Keyed->Int}{D:Keyed->Prop}{a₀ arr:Array Keyed}{pend:Array (Nat×Nat×Nat)}{g:Nat}{rs:List (List Keyed)}{S:List Keyed}
theorem zhy {i:Nat}{Q:Bool->SortSt->Prop}(T:Tells prog w A s κ key D)(hD:∀ x∈a₀.toList,D x)(h:RI key a₀ arr pend rs S)(hi:i+1<rs.length)
  (hq:∀ arr' pend' g' rs',RI key a₀ arr' pend' rs' S->rs'.length+1=rs.length->rs'.flatten.length=rs.flatten.length->Q true (SS κ arr' pend' g')) : wpS (model prog w) A E s (mergeAt' i) Q (SS κ arr pend g):=by
 obtain ⟨as,a,b,bs,rfl,li⟩:=znp hi
 have e:arr.toList=as.flatten++(a++(b++(bs.flatten++S))):=by rw [h.flat];simp [List.append_assoc]
 have hpd:=h.pd
 rw [zdP,Nat.zero_add] at hpd
 have o1:(offs 0 as++offs as.flatten.length (a::b::bs))[i]?=some (as.flatten.length,a.length):=by
  rw [List.getElem?_append_right (by rw [zbJ];lia),zbJ,li,Nat.sub_self];rfl
 have o2:(offs 0 as++offs as.flatten.length (a::b::bs))[i+1]?=some (as.flatten.length+a.length,b.length):=by
  rw [List.getElem?_append_right (by rw [zbJ];lia),zbJ,li,show i+1-i=1 by lia];rfl
 obtain ⟨pw,g1⟩:=zlg hpd o1
 obtain ⟨pw2,g2⟩:=zlg hpd o2
 have hin:∀ x∈arr.toList,D x:=fun x hx=>hD x (h.perm.mem_iff.mp hx)
 have ha:=h.srt a (by simp)
 have hb:=h.srt b (by simp)
 rw [<- zjn]
 refine zkn T e (fun x hx=>hin x (by rw [e];simp [hx])) (fun x hx=>hin x (by rw [e];simp [hx])) ha.1 hb.1 ha.2 hb.2 g1 g2 fun arr' c g' ea pc sc=>?_
 have lc:c.length=a.length+b.length:=by rw [pc.length_eq,List.length_append]
 refine hq arr' _ g' (as++(c::bs)) ⟨?_,?_,?_,?_⟩ (by simp only [List.length_append,List.length_cons];lia) (by simp only [List.flatten_append,List.flatten_cons,List.length_append];lia)
 ·rw [ea];simp [List.append_assoc]
 ·rw [Array.toList_eraseIdxIfInBounds,Array.toList_setIfInBounds,zlt,List.map_set,hpd,zdP,Nat.zero_add]
  have l0:(offs 0 as).length=i:=by rw [zbJ,li]
  rw [List.set_append_right _ _ (by lia),l0,Nat.sub_self,List.eraseIdx_append_of_length_le (by lia),l0,show i+1-i=1 by lia]
  show offs 0 as++((as.flatten.length,a.length+b.length)::offs (as.flatten.length+a.length+b.length) bs)=offs 0 as++((as.flatten.length,c.length)::offs (as.flatten.length+c.length) bs)
  rw [lc,Nat.add_assoc]
 ·intro r hr
  rcases List.mem_append.mp hr with q | q
  ·exact h.srt r (List.mem_append_left _ q)
  ·rcases List.mem_cons.mp q with q | q
   ·rw [q]
    exact ⟨sc,fun z=>by rw [z] at lc;have:=List.length_pos_iff.mpr ha.2;simp at lc;lia⟩
   ·exact h.srt r (List.mem_append_right _ (List.mem_cons_of_mem _ (List.mem_cons_of_mem _ q)))
 ·refine List.Perm.trans ?_ h.perm
  rw [ea,e]
  refine List.Perm.append_left _ ?_
  have:=List.Perm.append_right (bs.flatten++S) pc
  rwa [List.append_assoc a b] at this
theorem RI.run {n:Nat}{ar:Array Keyed}(h:RI key a₀ arr pend rs S)(hK:Kept rs.flatten.length arr ar)(hn:1<=n)(hz:rs.flatten.length+n<=arr.size)(hU:UpTo key rs.flatten.length ar n) : ∃ r S',RI key a₀ ar pend rs (r++S')/\r.length=n/\Srt key r:=by
 have ez:=hK.size
 have e1:ar.toList.take rs.flatten.length=rs.flatten:=by
  have:arr.toList.take rs.flatten.length=rs.flatten:=by rw [h.flat,List.take_left]
  refine Eq.trans ?_ this
  refine List.ext_getElem? fun i=>?_
  by_cases c:i<rs.flatten.length
  ·rw [List.getElem?_take_of_lt c,List.getElem?_take_of_lt c,Array.getElem?_toList,Array.getElem?_toList]
   exact hK.low i c
  ·rw [List.getElem?_eq_none (by rw [List.length_take];lia),List.getElem?_eq_none (by rw [List.length_take];lia)]
 have lr:((ar.toList.drop rs.flatten.length).take n).length=n:=by rw [List.length_take,List.length_drop,Array.length_toList];lia
 refine ⟨(ar.toList.drop rs.flatten.length).take n,ar.toList.drop (rs.flatten.length+n),⟨?_,h.pd,h.srt,hK.perm.trans h.perm⟩,lr,?_⟩
 ·rw [<- cutd]
  conv=>lhs;rw [<- List.take_append_drop rs.flatten.length ar.toList,e1]
 ·refine List.pairwise_iff_getElem.mpr fun i j hi hj hij=>?_
  rw [lr] at hi hj
  have:=hU i j (by lia) hj
  unfold kx at this
  have gi:∀ t (ht:t<((ar.toList.drop rs.flatten.length).take n).length),((ar.toList.drop rs.flatten.length).take n)[t]=el ar (rs.flatten.length+t):=fun t ht=>by
   have l:rs.flatten.length+t<ar.size:=by rw [lr] at ht;lia
   have:=zbP l
   rw [<- List.getElem?_drop,<- List.getElem?_take_of_lt (show t<n by lia),List.getElem?_eq_getElem ht] at this
   exact Option.some.inj this
  rw [gi,gi]
  exact this
theorem RI.push {r S':List Keyed}(h:RI key a₀ arr pend rs (r++S'))(sr:Srt key r)(ne:r≠[]) : RI key a₀ arr (pend.push (rs.flatten.length,r.length,0)) (rs++[r]) S':=by
 refine ⟨?_,?_,fun x hx=>?_,h.perm⟩
 ·rw [List.flatten_append,List.flatten_cons,List.flatten_nil,List.append_nil,List.append_assoc]
  exact h.flat
 ·rw [Array.toList_push,List.map_append,h.pd,zdP,Nat.zero_add]
  rfl
 ·rcases List.mem_append.mp hx with q | q
  ·exact h.srt x q
  ·rw [List.mem_singleton.mp q];exact ⟨sr,ne⟩
theorem RI.pw {f:Nat×Nat×Nat->Nat×Nat×Nat}{i:Nat}(h:RI key a₀ arr pend rs S)(hf:∀ x,p2 (f x)=p2 x) : RI key a₀ arr (pend.modify i f) rs S:=by
 refine ⟨h.flat,?_,h.srt,h.perm⟩
 rw [<- h.pd,Array.toList_modify]
 refine List.ext_getElem? fun j=>?_
 rw [List.getElem?_map,List.getElem?_map,List.getElem?_modify]
 cases pend.toList[j]? with
 | none=>rfl
 | some x =>
  show some (p2 (if i=j then f x else x))=some (p2 x)
  split
  ·rw [hf]
  ·rfl
end
section
variable {prog:Program}{w:World}{A:Around}{E:Value->Shared->Prop}{s:Shared}{κ:SortKind}{key:Keyed->Int}{D:Keyed->Prop}{a₀:Array Keyed}
theorem zoj {c:Prop}[Decidable c]{a b n:Nat}(h1:a+1<n)(h2:b+1<n) : (if c then a else b)+1<n:=by
 split
 ·exact h1
 ·exact h2
theorem t_runs {g:Nat}{Q:Unit->SortSt->Prop}(T:Tells prog w A s κ key D)(hD:∀ x∈a₀.toList,D x)(hq:∀ arr pend g,arr.toList.Perm a₀.toList->Srt key arr.toList->Q () (SS κ arr pend g)) : wpS (model prog w) A E s sortRuns' Q (SS κ a₀ #[] g):=by
 unfold sortRuns'
 refine wpS_bind (wpS_get ?_)
 refine wpS_bind (wpS_forRange (I:=fun x c st'=>∃ arr pend g rs S,c=(none,rs.flatten.length)/\st'=SS κ arr pend g/\RI key a₀ arr pend rs S/\rs.flatten.length<=a₀.size/\x<=rs.flatten.length)
  (Q:=fun c st'=>∃ arr pend g rs S,c=(none,rs.flatten.length)/\st'=SS κ arr pend g/\RI key a₀ arr pend rs S/\rs.flatten.length=a₀.size) ?step ?fin ⟨a₀,#[],g,[],a₀.toList,rfl,rfl,⟨rfl,rfl,(fun _ h=>nomatch h),List.Perm.refl _⟩,Nat.zero_le _,Nat.zero_le _⟩ |> (wpS_mono · ?post))
 case fin =>
  rintro c st' ⟨arr,pend,g,rs,S,rfl,rfl,h,q1,q2⟩
  refine ⟨arr,pend,g,rs,S,rfl,rfl,h,?_⟩
  have q2:max 0 a₀.size<=rs.flatten.length:=q2
  lia
 case step =>
  rintro x c st' _ hx ⟨arr,pend,g,rs,S,rfl,rfl,h,q1,q2⟩
  have hx:x<a₀.size:=hx
  have az:=h.asize
  have hin:∀ y∈arr.toList,D y:=fun y hy=>hD y (h.perm.mem_iff.mp hy)
  refine zae (fun c=>wpS_pure ⟨arr,pend,g,rs,S,rfl,rfl,h,?_⟩) (fun c=>?_)
  ·have c:rs.flatten.length ≥ a₀.size:=c
   lia
  have c : ¬ rs.flatten.length ≥ a₀.size:=c
  refine wpS_bind (zlL (lo:=rs.flatten.length) (nrem:=a₀.size-rs.flatten.length) T hin (by lia) (by lia) fun m ar hK m1 m2 hU=>?_)
  refine zae (fun c1=>?_) (fun c1=>?_)
  refine wpS_bind (wpS_lift (wpAny_rule ⟨rfl,?_⟩))
  have hK2:=hK
  have ez:=hK.size
  have hin2:∀ y∈ar.toList,D y:=fun y hy=>hin y (hK.perm.mem_iff.mp hy)
  have mlt:m<minRun' a₀.size a₀.size 0:=c1
  refine wpS_bind (zn7 (lo:=rs.flatten.length) (n:=min (a₀.size-rs.flatten.length) (minRun' a₀.size a₀.size 0)) (ok:=m) T hin2 (by lia) (by lia) hU fun ar2 hK3 hU2=>?_)
  refine zae (fun z=>nomatch z) (fun _=>?_)
  have hK:Kept rs.flatten.length arr ar2:=⟨hK3.perm.trans hK2.perm,fun i hi=>(hK3.low i hi).trans (hK2.low i hi)⟩
  let ar:=ar2
  let m:=min (a₀.size-rs.flatten.length) (minRun' a₀.size a₀.size 0)
  have m1:1<=m:=by show 1<=min (a₀.size-rs.flatten.length) (minRun' a₀.size a₀.size 0);lia
  have m2:rs.flatten.length+m<=arr.size:=by show rs.flatten.length+min (a₀.size-rs.flatten.length) (minRun' a₀.size a₀.size 0)<=_;lia
  have hU:UpTo key rs.flatten.length ar m:=hU2
  rotate_left
  have m2:rs.flatten.length+m<=arr.size:=by lia
  all_goals
   obtain ⟨r,S',hR,lr,sr⟩:=h.run hK m1 m2 hU
   have ner:r≠[]:=fun z=>by rw [z] at lr;simp at lr;lia
   have fin:∀ (arr':Array Keyed) (pend':Array (Nat×Nat×Nat)) (g':Nat) (rs':List (List Keyed)),RI key a₀ arr' pend' rs' (r++S')->rs'.flatten.length=rs.flatten.length->∃ arr'' pend'' g'' rs'' S'',((none,rs.flatten.length+m) : Option Unit×Nat)=(none,rs''.flatten.length)/\SS κ arr' (pend'.push (rs.flatten.length,m,0)) g'=SS κ arr'' pend'' g''/\RI key a₀ arr'' pend'' rs'' S''/\rs''.flatten.length<=a₀.size/\x+1<=rs''.flatten.length:=by
    intro arr' pend' g' rs' h' e'
    have:=h'.push sr ner
    rw [e',lr] at this
    have el:(rs'++[r]).flatten.length=rs.flatten.length+m:=by rw [List.flatten_append,List.length_append,List.flatten_cons,List.flatten_nil,List.append_nil,e',lr]
    exact ⟨_,_,_,rs'++[r],S',by rw [el],rfl,this,by rw [el];lia,by rw [el];lia⟩
   refine wpS_bind (wpS_get ?_)
   show wpS _ _ _ _ (match pend.back? with | some (s1,n1,snd)=>_ | x=>_) _ _
   cases eb:pend.back? with
   | none=>exact wpS_bind (wpS_modify (wpS_pure (fin _ _ _ _ hR rfl)))
   | some y =>
    obtain ⟨s1,n1,p1⟩:=y
    refine wpS_bind (wpS_forRange (I:=fun x c st'=>∃ arr' pend' g' rs',c=(none,())/\st'=SS κ arr' pend' g'/\RI key a₀ arr' pend' rs' (r++S')/\rs'.flatten.length=rs.flatten.length)
     (Q:=fun c st'=>∃ arr' pend' g' rs',c=(none,())/\st'=SS κ arr' pend' g'/\RI key a₀ arr' pend' rs' (r++S')/\rs'.flatten.length=rs.flatten.length) ?_ (fun c st' h=>h) ⟨_,pend,g,rs,rfl,rfl,hR,rfl⟩ |> (wpS_mono · ?_))
    ·rintro c st' ⟨arr',pend',g',rs',rfl,rfl,h',e'⟩
     refine wpS_bind (wpS_modify ?_)
     have hw:RI key a₀ arr' (pend'.modify (pend'.size-1) fun x=>(x.1,x.2.1,power' a₀.size (2*s1+n1) (2*s1+n1+n1+m) a₀.size)) rs' (r++S'):=h'.pw fun _=>rfl
     exact wpS_bind (wpS_modify (wpS_pure (fin arr' _ g' rs' hw e')))
    ·rintro x c st' _ hx ⟨arr',pend',g',rs',rfl,rfl,h',e'⟩
     refine wpS_bind (wpS_get ?_)
     have ps:=h'.size
     by_cases hp:pend'.size>1
     ·show wpS _ _ _ _ (match (if pend'.size>1 then pend'[pend'.size-2]? else none) with | some (_,_,older)=>_ | x=>_) _ _
      rw [if_pos hp]
      cases e2:pend'[pend'.size-2]? with
      | none=>exact wpS_pure ⟨arr',pend',g',rs',rfl,rfl,h',e'⟩
      | some y =>
       obtain ⟨_,_,older⟩:=y
       refine zae (fun _=>wpS_pure ⟨arr',pend',g',rs',rfl,rfl,h',e'⟩) (fun _=>?_)
       refine wpS_bind (zhy T hD h' (show pend'.size-2+1 < _ by lia) fun ar3 pend3 g3 rs3 h3 l1 l2=>?_)
       exact zae (fun z=>nomatch z) (fun _=>wpS_pure ⟨ar3,pend3,g3,rs3,rfl,rfl,h3,by lia⟩)
     ·show wpS _ _ _ _ (match (if pend'.size>1 then pend'[pend'.size-2]? else none) with | some (_,_,older)=>_ | x=>_) _ _
      rw [if_neg hp]
      exact wpS_pure ⟨arr',pend',g',rs',rfl,rfl,h',e'⟩
 case post =>
  rintro c st' ⟨arr,pend,g,rs,S,rfl,rfl,h,q1⟩
  have az:=h.asize
  refine wpS_bind (wpS_forRange (I:=fun x c st'=>∃ arr pend g rs S,c=(none,())/\st'=SS κ arr pend g/\RI key a₀ arr pend rs S/\rs.flatten.length=a₀.size/\rs.length+x<=a₀.size)
   (Q:=fun c st'=>∃ arr pend g rs S,c=(none,())/\st'=SS κ arr pend g/\RI key a₀ arr pend rs S/\rs.flatten.length=a₀.size/\rs.length<=1) ?step ?fin ⟨arr,pend,g,rs,S,rfl,rfl,h,q1,by have:=zjX h.srt;lia⟩ |> (wpS_mono · ?post))
  case fin =>
   rintro c st' ⟨arr,pend,g,rs,S,rfl,rfl,h,q1,q2⟩
   have q2:rs.length+max 0 a₀.size<=a₀.size:=q2
   exact ⟨arr,pend,g,rs,S,rfl,rfl,h,q1,by lia⟩
  case step =>
   rintro x c st' _ hx ⟨arr,pend,g,rs,S,rfl,rfl,h,q1,q2⟩
   have ps:=h.size
   refine wpS_bind (wpS_get ?_)
   refine zae (fun c=>wpS_pure ⟨arr,pend,g,rs,S,rfl,rfl,h,q1,?_⟩) (fun c=>?_)
   ·have c:pend.size<=1:=c
    lia
   have c : ¬ pend.size<=1:=c
   refine wpS_bind (zhy T hD h ?_ fun arr' pend' g' rs' h' l1 l2=>?_)
   ·exact zoj (show pend.size-2-1+1 < _ by lia) (show pend.size-2+1 < _ by lia)
   ·exact zae (fun z=>nomatch z) (fun _=>wpS_pure ⟨arr',pend',g',rs',S,rfl,rfl,h',by lia,by lia⟩)
  case post =>
   rintro c st' ⟨arr,pend,g,rs,S,rfl,rfl,h,q1,q2⟩
   refine wpS_pure (hq arr pend g h.perm ?_)
   have hl:arr.toList.length=a₀.size:=by rw [Array.length_toList];exact h.asize
   have hf:=h.flat
   have hS:S=[]:=by
    have:=congrArg List.length hf
    rw [List.length_append,hl] at this
    exact List.eq_nil_of_length_eq_zero (by lia)
   rw [hf,hS,List.append_nil]
   match rs,q2,h with
   | [],_,_=>exact List.Pairwise.nil
   | [r],_,h =>
    rw [List.flatten_cons,List.flatten_nil,List.append_nil]
    exact (h.srt r List.mem_cons_self).1
end
end Wr
namespace L2
open PySem PySem.Spec PyProof.Rows
theorem zjA:∀ {us:List Value} {k k':List Int},IntsAre us k->IntsAre us k'->k=k':=by
 intro us k k' h h'
 induction h generalizing k' with
 | nil=>cases h';rfl
 | cons i t r ih=>cases h' with | cons i' t' r'=>rw [ih r']
theorem KeyAt.uniq {h:Heap}{v:Value}{k k':List Int}(a:KeyAt h v k)(b:KeyAt h v k') : k=k':=by
 obtain ⟨x,us,e,⟨o,ho,hc,n,hd⟩,i,_⟩:=a
 obtain ⟨x',us',e',⟨o',ho',hc',n',hd'⟩,i',_⟩:=b
 rw [e] at e'
 cases e'
 rw [ho] at ho'
 cases ho'
 rw [hd] at hd'
 have:us=us':=by
  injection hd' with q _
  have:=congrArg Array.toList q
  simpa using this
 subst this
 exact zjA i i'
open Classical in
noncomputable def keyOf (h:Heap)(v:Value) : List Int:=if e:∃ k,KeyAt h v k then e.choose else []
theorem zdY {h:Heap}{v:Value}{k:List Int}(a:KeyAt h v k) : keyOf h v=k:=by
 unfold keyOf
 rw [dif_pos ⟨k,a⟩]
 exact (Exists.choose_spec (⟨k,a⟩ : ∃ k,KeyAt h v k)).uniq a
noncomputable def rkey (h:Heap)(ks:List (List Int))(x:Keyed) : Int:=ziU ks (keyOf h x.1)
section
variable {prog:Program}{w:World}{A:Around}{E:Value->Shared->Prop}{s:Shared}
theorem zij {ks:List (List Int)} : Wr.Tells prog w A s (tuples' true) (rkey s.heap ks) (fun x=>∃ k∈ks,KeyAt s.heap x.1 k):=by
 rintro x y ⟨k,hk,kx⟩ ⟨k',hk',ky⟩ Q h
 unfold rkey at h
 rw [zdY kx,zdY ky,zj3 hk] at h
 obtain ⟨a,us,ea,⟨oa,ha,ca,na,da⟩,ia,_⟩:=kx
 obtain ⟨b,ws,eb,⟨ob,hb,cb,nb,db⟩,ib,_⟩:=ky
 rw [ea,eb]
 refine W.kat_lt ha da hb db ?_
 refine zhX _ _ _ _ 0 _ (by simpa using ia) (by simpa using ib) ?_ h
 rw [List.size_toArray,List.size_toArray,ia.length,ib.length]
end
theorem zfY {α β:Type}{f:α->β}{ws us:List β}(h:ws.Perm us) : ∀ {l:List α},us=l.map f->∃ l':List α,l'.Perm l/\l'.map f=ws:=by
 induction h with
 | nil=>intro l e;exact ⟨l,List.Perm.refl _,e.symm⟩
 | cons x _ ih =>
  intro l e
  cases l with
  | nil=>cases e
  | cons y l =>
   obtain ⟨e1,e2⟩:=List.cons.inj e
   obtain ⟨l',p,q⟩:=ih e2
   exact ⟨y::l',p.cons y,by rw [List.map_cons,q,e1]⟩
 | swap x y l0 =>
  intro l e
  match l,e with
  | a::b::l,e =>
   obtain ⟨e1,e2⟩:=List.cons.inj e
   obtain ⟨e3,e4⟩:=List.cons.inj e2
   exact ⟨b::a::l,List.Perm.swap _ _ _,by rw [List.map_cons,List.map_cons,e1,e3,e4]⟩
 | trans _ _ ih1 ih2 =>
  intro l e
  obtain ⟨l2,p2,q2⟩:=ih2 e
  obtain ⟨l1,p1,q1⟩:=ih1 q2.symm
  exact ⟨l1,p1.trans p2,q1⟩
theorem zh4:∀ {xs:List V} {vs:List Value},Vals xs vs->∀ p∈xs.zip vs,RelV p.1 p.2:=by
 intro xs vs h
 induction h with
 | nil=>intro p hp;cases hp
 | cons r _ ih =>
  intro p hp
  rw [List.zip_cons_cons] at hp
  rcases List.mem_cons.mp hp with rfl | hp
  ·exact r
  ·exact ih p hp
theorem zid:∀ {ps:List (V×Value)},(∀ p∈ps,RelV p.1 p.2)->Vals (ps.map (·.1)) (ps.map (·.2)):=by
 intro ps
 induction ps with
 | nil=>intro _;exact .nil
 | cons p ps ih=>intro h;exact .cons (h p List.mem_cons_self) (ih fun q hq=>h q (List.mem_cons_of_mem _ hq))
theorem zjB {xs:List V}{vs:List Value}(r:Vals xs vs) : vs.zip vs=(xs.zip vs).map fun p=>(p.2,p.2):=by
 induction r with
 | nil=>rfl
 | cons _ _ ih=>rw [List.zip_cons_cons,List.zip_cons_cons,List.map_cons,ih]
theorem zk5 {h:Heap}{kf:V->List Int} : ∀ {xs:List V} {vs:List Value},KeysAt h vs (xs.map kf)->∀ p∈xs.zip vs,KeyAt h p.2 (kf p.1):=by
 intro xs
 induction xs with
 | nil=>intro vs _ p hp;rw [List.zip_nil_left] at hp;cases hp
 | cons x xs ih =>
  intro vs k p hp
  cases k with
  | cons r t =>
   rw [List.zip_cons_cons] at hp
   rcases List.mem_cons.mp hp with rfl | hp
   ·exact r
   ·exact ih t p hp
section
variable {prog:Program}{w:World}{A:Around}{E:Value->Shared->Prop}{s:Shared}
theorem zbr {a:Addr}{n:Nat}{xs:List V}{vs:List Value}{kf:V->List Int}{P:PySem.Fin->Shared->Prop}(ho:s.heap.get? a=some (seqObj "list" vs.toArray n))(r:Vals xs vs)(K:KeysAt s.heap vs (xs.map kf))(hb:vs.length<=100000)
  (h:∀ (ys:List V) (ws:List Value),Vals ys ws->ys.Perm xs->za2 kf ys->P (.done (.ret .none)) { s with heap:=sortedHeap s.heap a vs ws.toArray }) :
  wpAny (model prog w) A (Builtin.«list.sort» ⟨[.ref a],[]⟩) P E s:=by
 rw [list_sort_plain];have ha:a<s.heap.objs.size:=Heap.lt_size ho
 have hl:=Vals.length r
 have b1:(100000:Nat)<=sizeLine:=by decide
 refine wpAny_bind (listItems_at ho rfl ?_)
 refine wpAny_bind (listUpdate_at ho rfl ?_)
 obtain ⟨e1,ho1⟩ : ∃ e1,(s.heap.update a (Obj.mapSeq fun _=>#[])).get? a=some (seqObj "list" #[] e1):=⟨_,get?_update_seq ho (fun _=>#[])⟩
 refine wpAny_bind (seqEpoch_at ho1 rfl ?_)
 refine wpAny_bind (wpAny_newTuple ?_)
 refine wpAny_bind (wpAny_newList ?_);refine wpAny_holding ?_
 have ho6:(((s.heap.update a (Obj.mapSeq fun _=>#[])).push (seqObj "tuple" vs.toArray 0)).push (seqObj "list" #[] 0)).get? a=some (seqObj "list" #[] e1):=by
  rw [Heap.get?_push_ne _ _ _ (by rw [size_push',Heap.size_update];exact Nat.ne_of_lt (Nat.lt_succ_of_lt ha)),Heap.get?_push_ne _ _ _ (by rw [Heap.size_update];exact Nat.ne_of_lt ha)];exact ho1
 show wpAny (model prog w) A _ P E { s with heap:=((s.heap.update a (Obj.mapSeq fun _=>#[])).push (seqObj "tuple" vs.toArray 0)).push (seqObj "list" #[] 0) }
 dsimp only
 have hsz:vs.toArray.size=vs.length:=by simp
 by_cases h2:vs.toArray.size<2
 ·rw [if_pos h2,if_pos h2]
  refine wpAny_bind (wpAny_pure ?_);rw [StateT.run_pure]
  refine wpAny_bind (wpAny_pure ?_);dsimp only
  refine wpAny_bind (seqEpoch_at ho6 rfl ?_)
  have eo:(arrOf (SortSt.mk' general' (vs.toArray.zip vs.toArray) #[] 7 none)).map (·.2)=vs.toArray:=by
   show ((vs.toArray.zip vs.toArray)).map (·.2)=vs.toArray
   apply Array.toList_inj.mp
   rw [Array.toList_map,Array.toList_zip,List.map_snd_zip]
   simp
  rw [eo];refine wpAny_bind (listUpdate_at ho6 rfl ?_ (hsz2:=by rw [hsz];exact Nat.le_succ_of_le (Nat.le_trans hb b1)))
  simp only [bne_self_eq_false,Bool.false_eq_true,if_false];refine wpAny_pure (h xs vs r (List.Perm.refl _) ?_)
  unfold za2
  match xs,hl with
  | [],_=>exact .nil
  | [_],_=>exact List.pairwise_singleton _ _
  | _::_::_,hl=>simp at hl;lia
 rw [if_neg h2,if_neg h2]
 have h2':2<=vs.length:=by rw [hsz] at h2;lia
 have K6:KeysAt (((s.heap.update a (Obj.mapSeq fun _=>#[])).push (seqObj "tuple" vs.toArray 0)).push (seqObj "list" #[] 0)) vs (xs.map kf):=Paired.mapP K fun v k x=>x.keeps fun b o hb hc=>by
  have ne:b≠a:=fun e=>by rw [e,ho] at hb;cases hb;have hc':Value.type "list" = Value.type "tuple" := hc;injection hc' with q;exact absurd q (by decide)
  have hlt:b<s.heap.objs.size:=Heap.lt_size hb
  rw [Heap.get?_push_ne _ _ _ (by rw [size_push',Heap.size_update];exact Nat.ne_of_lt (Nat.lt_succ_of_lt hlt)),Heap.get?_push_ne _ _ _ (by rw [Heap.size_update];exact Nat.ne_of_lt hlt),Heap.get?_update_ne _ _ _ _ ne];exact hb
 generalize hs6:({ s with heap:=((s.heap.update a (Obj.mapSeq fun _=>#[])).push (seqObj "tuple" vs.toArray 0)).push (seqObj "list" #[] 0) } : Shared)=s6
 have K6':KeysAt s6.heap vs (xs.map kf):=(by rw [<- hs6];exact K6)
 refine wpAny_bind (zjO K6' (by lia) ?_)
 have zl:(vs.toArray.zip vs.toArray).toList=(xs.zip vs).map fun p=>(p.2,p.2):=by
  rw [Array.toList_zip]
  show vs.zip vs=_
  exact zjB r
 have kz:=zk5 K6'
 have mem:∀ p∈xs.zip vs,kf p.1∈xs.map kf:=fun p hp=>List.mem_map_of_mem (List.of_mem_zip hp).1
 refine wpAny_bind (wpAny_mono (Wr.t_runs (a₀:=vs.toArray.zip vs.toArray) (g:=7) (Q:=fun _ st'=>∃ arr pend g,st'=Wr.SS (tuples' true) arr pend g/\arr.toList.Perm (vs.toArray.zip vs.toArray).toList/\Wr.Srt (rkey s6.heap (xs.map kf)) arr.toList) (zij (prog:=prog) (w:=w) (A:=A) (s:=s6) (ks:=xs.map kf)) (fun x hx=>?_) fun arr pend g p q=>⟨arr,pend,g,rfl,p,q⟩) ?_ fun _ _ z=>z)
 ·rw [zl] at hx
  obtain ⟨p,hp,rfl⟩:=List.mem_map.mp hx
  exact ⟨kf p.1,mem p hp,kz p hp⟩
 ·rintro ⟨⟨⟩,st'⟩ s' ⟨rfl,arr,pend,g,e,pm,st⟩
  obtain rfl:st'=Wr.SS (tuples' true) arr pend g:=e
  dsimp only
  rw [zl] at pm
  obtain ⟨ps,pp,pq⟩:=zfY pm rfl
  have out:arr.map (·.2)=(ps.map (·.2)).toArray:=by
   apply Array.toList_inj.mp
   rw [Array.toList_map,<- pq,List.map_map]
   rfl
  have lo:(ps.map (·.2)).length=vs.length:=by
   rw [List.length_map,pp.length_eq,List.length_zip];lia
  subst hs6
  refine wpAny_bind (seqEpoch_at ho6 rfl ?_)
  show wpAny (model prog w) A (do
   _
   _) P E _
  have o2:(arrOf (Wr.SS (tuples' true) arr pend g)).map (·.2)=(ps.map (·.2)).toArray:=out
  rw [o2]
  refine wpAny_bind (listUpdate_at ho6 rfl ?_ (hsz2:=(by rw [List.size_toArray,lo,sizeLine_eq];rw [sizeLine_eq] at b1;lia)))
  have hf:failedOf (Wr.SS (tuples' true) arr pend g)=none:=rfl
  rw [hf]
  simp only [bne_self_eq_false,Bool.false_eq_true,if_false]
  have inz:∀ p∈ps,p∈xs.zip vs:=fun p hp=>pp.mem_iff.mp hp
  have hv:Vals (ps.map (·.1)) (ps.map (·.2)):=zid fun p hp=>zh4 r p (inz p hp)
  refine wpAny_pure (h _ _ hv ?_ ?_)
  ·have:=pp.map (fun p:V×Value=>p.1)
   rwa [show (xs.zip vs).map (fun p:V×Value=>p.1)=xs from List.map_fst_zip (by lia)] at this
  ·unfold za2
   rw [<- pq] at st
   have st:=List.pairwise_map.mp st
   rw [List.pairwise_map]
   refine List.Pairwise.imp_of_mem ?_ st
   intro p q hp hq le
   have le:rkey _ (xs.map kf) (p.2,p.2)<=rkey _ (xs.map kf) (q.2,q.2):=le
   unfold rkey at le
   rw [zdY (kz p (inz p hp)),zdY (kz q (inz q hq))] at le
   have:=zj3 (y:=kf p.1) (mem q (inz q hq))
   rw [<- this]
   exact decide_eq_false (by lia)
end
section
variable {X:Cx}{pins:List (Addr×Obj)}{σ:St}{H:Hp}{s:Shared}
theorem znq {n:Nat}(h:n<=10000) : n<=sizeLine:=Nat.le_trans h (by decide)
end
end L2
namespace L2
open PySem PySem.Spec PyProof.Rows Wr
def RwP (P:Program)(w:World)(h:Heap)(a:Addr)(ps:List RP) : Prop:=∃ o es ep t,h.get? a=some o/\o.ExactSet/\o.data=.set es ep t/\Paired (fun (e:Int×Value) (p:RP)=>e.1=zav P w p.1/\e.2=.ref p.2) es.toList ps/\(ps.map (·.1)).Nodup/\TOk t es.size/\Rch t (es.toList.map (·.1))/\(byTx w=false->t.led=true)
def zcm (P:Program)(w:World)(a:Addr)(ps:List RP) : HO:=.ext fun h=>RwP P w h a ps
theorem zk0 {P:Program}{w:World}{H:Hp}{h:Heap}{a:Addr}{ps:List RP}(x:RwP P w h a ps) : ObjOk P w H h a (zcm P w a ps):=by
 obtain ⟨o,es,ep,t,h1,r⟩:=id x
 exact ⟨x,⟨o,h1⟩,fun h1 h2 ⟨o,es,ep,t,y,r⟩ k=>⟨o,es,ep,t,k _ y,r⟩⟩
theorem rw_p {P:Program}{w:World}{h:Heap}{a:Addr}{ps:List RP}(x:RwSet P w h a ps) : RwP P w h a ps:=by
 obtain ⟨o,es,ep,t,R⟩:=x.ex
 exact ⟨o,es,ep,t,R.at',R.ex,R.dat,za3 R.prs fun _ _ ⟨a,b,_⟩=>⟨a,b⟩,R.nd,R.ok,R.rch,R.led⟩
theorem zhQ {α β:Type}{R S:α->β->Prop}{xs:List α}{ys:List β}(h:Paired R xs ys)(f:∀ x y,y∈ys->R x y->S x y) : Paired S xs ys:=by
 induction h with
 | nil=>exact .nil
 | cons r _ ih=>exact .cons (f _ _ List.mem_cons_self r) (ih fun x y hy=>f x y (List.mem_cons_of_mem _ hy))
theorem p_rw {P:Program}{w:World}{h:Heap}{a:Addr}{ps:List RP}(x:RwP P w h a ps)(r:∀ p∈ps,IsRow P w h p.1 p.2) : RwSet P w h a ps:=by
 obtain ⟨o,es,ep,t,h1,h2,h3,h4,h5,h6,h7,h8⟩:=x
 exact ⟨o,es,ep,t,h1,h2,h3,zhQ h4 fun e p hp q=>⟨q.1,q.2,r p hp⟩,h5,h6,h7,h8⟩
def zfm (H:Hp)(ps:List RP) : Prop:=∀ p∈ps,H p.2=some (.tup (p.1.map V.int))
section
variable {X:Cx}{pins:List (Addr×Obj)}{σ:St}{H:Hp}{s:Shared}
theorem items_int {P:Program}{w:World} : ∀ {k:List Int} {vs:List Value},Vals (k.map V.int) vs->ItemsAre (intKind P w) k vs:=by
 intro k
 induction k with
 | nil=>intro vs h;cases h;exact .nil
 | cons n k ih =>
  intro vs h
  rw [List.map_cons] at h
  cases h with
  | cons r t =>
   obtain ⟨tk,rfl⟩:=r
   exact .cons (by show Value.isInt n (.int n tk)=true;simp [Value.isInt]) (ih t)
theorem zhM {P:Program}{w:World}{k:List Int}{b:Addr}(I:Inv X pins σ H s)(h:H b=some (.tup (k.map V.int))) : IsRow P w s.heap k b:=by
 obtain ⟨_,its,rv,o,ho,hc,n,hd⟩:=I.hok b _ h
 exact ⟨o,its.toArray,n,ho,hc,hd,items_int rv⟩
theorem Inv.rset {a:Addr}{ps:List RP}(I:Inv X pins σ H s)(h:H a=some (zcm X.prog X.w a ps))(r:zfm H ps) : RwSet X.prog X.w s.heap a ps:=p_rw (I.hok a _ h).1 fun p hp=>zhM I (r p hp)
def zkB (P:Program)(w:World)(K:W.Frag) : List V->Hp->VK->Prop:=fun xs H Q=>∃ (l:Addr) (ys:List V) (ks g:List (List Int)),xs=[.ref l]/\SqL K H l ys/\Paired (RowAt H) ys ks/\(∀ k∈ks,k∈g)/\g.length<126 /\
 ∀ (D:Addr) (ps:List RP),H D=none->(∀ k,k∈ps.map (·.1)↔k∈ks)->(ps.map (·.1)).Nodup->zfm H ps->Q (.ref D) (upd H D (zcm P w D ps))
theorem znh {P:Program}{w:World}(I:Inv X pins σ H s) : ∀ {ys:List V} {us:List Value} {ks:List (List Int)},Vals ys us->Paired (RowAt H) ys ks->Paired (RowV P w s.heap) us ks:=by
 intro ys us ks r
 induction r generalizing ks with
 | nil=>intro p;cases p;exact .nil
 | cons r _ ih =>
  intro p
  cases p with
  | cons q t =>
   obtain ⟨a,e1,e2⟩:=q
   subst e1
   cases r
   exact .cons ⟨a,rfl,zhM I e2⟩ (ih t)
theorem zfP (hc:X.calm=true)(hu:X.A.units+3<cLine) : zb4 X (.type "set") (zkB X.prog X.w X.K):=by
 intro pins s σ H xs us Q I r ⟨l,ys,ks,g,e,hl,pr,hg,g6,q⟩
 subst e
 obtain ⟨u,rfl,ru⟩:=Vals.one r
 cases ru
 obtain ⟨its,rv,pl,_⟩:=I.list hl
 have rows:=znh (P:=X.prog) (w:=X.w) I rv pr
 refine zg7 (zgM I hc) hu pl.isList (by simpa using rows) hg g6 fun h' tk ms k hS mem orig=>?_
 have orig' : zfm H ms := by
  intro p hp
  have ho:=orig p hp
  obtain ⟨y,hy,ry⟩ : ∃ y∈ys,RelV y (.ref p.2):=by
   have:∀ {ys:List V} {us:List Value},Vals ys us->Value.ref p.2∈us->∃ y∈ys,RelV y (.ref p.2):=by
    intro ys us v
    induction v with
    | nil=>intro z;cases z
    | cons r _ ih =>
     intro z
     rcases List.mem_cons.mp z with e | z
     ·exact ⟨_,List.mem_cons_self,e ▸ r⟩
     ·obtain ⟨y,h1,h2⟩:=ih z
      exact ⟨y,List.mem_cons_of_mem _ h1,h2⟩
   exact this rv (by simpa using ho)
  obtain ⟨k',_,a,e1,e2⟩:=zd0 pr hy
  subst e1
  cases ry
  have r1:IsRow X.prog X.w h' k' p.2:=(zhM (P:=X.prog) (w:=X.w) I e2).keeps fun o e _=>k _ _ e
  obtain ⟨_,es,_,_,R⟩:=hS.ex
  obtain ⟨e,_,_,_,r2⟩:=zhL R.prs hp
  rw [r2.inj r1]
  exact e2
 exact ⟨.ref s.heap.objs.size,_,I.laid (a:=s.heap.objs.size) (o:=zcm X.prog X.w s.heap.objs.size ms) (t':=tk) (fun b u z=>k b u z) (Nat.le_refl _) (zk0 (rw_p hS)),rfl,q _ ms (I.hok.fresh (Nat.le_refl _)) mem (rw_nd hS) orig'⟩
theorem zeq (hc:X.calm=true:=by rfl){k:Nat}(hr:Room k X.A) : JC X (.type "set") (zkB X.prog X.w X.K):=⟨zfP hc (by have:=hr.units;lia)⟩
end
end L2
namespace Wr
open PySem SetTable PyProof.Rows
section
variable {prog:Program}{w:World}{A:Around}{E:Value->Shared->Prop}{s:Shared}
theorem RwRaw.rset {h:Heap}{a:Addr}{ps:List RP}{o:Obj}{es:Array (Int×Value)}{ep:Nat}{t:SetTable}(x:RwRaw prog w h a ps o es ep t) : RwSet prog w h a ps:=⟨o,es,ep,t,x⟩
theorem zaA {a:Addr}{ns:List RP}(hS:RwSet prog w s.heap a ns) : s.TypeIs (.ref a) "set" := by
 obtain ⟨o,es,ep,t,R⟩:=hS.ex
 exact ⟨o,R.at',R.ex.1⟩
theorem zgv {h:Heap}{a:Addr}{o:Obj}{es es':Array (Int×Value)}{ep:Nat}{t t':SetTable}{ns':List RP}(ho:h.get? a=some o)(hx:o.ExactSet)(hd:o.data=.set es ep t)(p:Paired (ElemR prog w h) es'.toList ns')(nd:(ns'.map (·.1)).Nodup)(ok:TOk t' es'.size)(rch:Rch t' (es'.toList.map (·.1)))(led:byTx w=false->t'.led=true) :
  RwSet prog w (h.update a (Obj.putSet es' t')) a ns':=by
 have hg:(h.update a (Obj.putSet es' t')).get? a=some { o with data:=.set es' (ep+1) t' }:=by
  have e:=Heap.get?_update_self (Obj.putSet es' t') ho (by rw [putSet_of es' t' hd];rfl)
  rwa [putSet_of es' t' hd] at e
 exact ⟨_,es',ep+1,t',hg,hx,rfl,ElemR.keeps p ho hx (Heap.SameBut.update _ a _),nd,ok,rch,led⟩
theorem zi7 {h:Heap}{a:Addr}{ps:List RP}(x:RwSet prog w h a ps) : ∀ b o,h.get? b=some o->o.cls=.type "tuple" -> b≠a:=fun b o e hc z=>by
 obtain ⟨o2,_,_,_,R2⟩:=x.ex
 rw [z,R2.at'] at e
 cases e
 have:=R2.ex.1
 rw [hc] at this
 injection this with q
 exact absurd q (by decide)
theorem zlU {a:Addr}{ns:List RP}{more:Nat}{Q:Unit->Shared->Prop}(hS:RwSet prog w s.heap a ns)(hb:ns.length+more<128)
  (h:∀ h' ns' o es ep t,Heap.SameBut a s.heap h'->RwRaw prog w h' a ns' o es ep t->ns'.Perm ns->(ns.length+more)*5<t.mask*3->Q () { s with heap:=h' }) :
  wpAny (model prog w) A (setRoomFor a more) Q E s:=by
 obtain ⟨o,es,ep,t,R⟩:=hS.ex
 have hlen:=R.len
 unfold setRoomFor
 refine wpAny_bind (R.g.state ?_)
 dsimp only
 have hfill:t.fill=es.size:=by unfold SetTable.fill;rw [R.ok.nod,R.ok.sz];rfl
 by_cases hc:(t.fill+more)*5 ≥ t.mask*3
 ·have hr:t.roomFor more=some ((t.place.size+more)*2):=by unfold SetTable.roomFor;rw [if_pos hc]
  rw [hr]
  dsimp only
  unfold setRelay
  refine wpAny_bind (R.g.state ?_)
  dsimp only
  have hw:(t.place.size+more)*2<512:=by rw [R.ok.sz];lia
  obtain ⟨m,hm,em,hlt⟩:=zbn hw
  have hm512:m<=512/\8<=m:=by
   have all:∀ m∈[8,16,32,64,128,256,512],m<=512/\8<=m:=by decide
   exact all m hm
  refine zao (by rw [em,sizeLine_eq];lia) ?_
  obtain ⟨t',order,e,ok,hl,hp⟩:=zf6 t R.ok.plain (es.map (·.1)) hw (by rw [Array.size_map,R.ok.sz];lia)
  rw [Array.size_map] at ok hp
  have pk:=zbM es order hp
  have sz:(order.filterMap (es[·]?)).size=es.size:=by
   have z:=pk.length_eq
   rw [Array.length_toList,Array.length_toList] at z
   exact z
  rw [e]
  refine wpAny_bind (zao (c:=((order.filterMap (es[·]?)).size != es.size)=true) (by rw [sz];simp) (wpAny_pure ?_))
  dsimp only
  have hz:(order.filterMap (es[·]?)).size<=sizeLine:=by rw [sz,hlen];exact fits_of_scanBound (by show _<4096;lia)
  refine wpAny_storeSet_of R.at' R.dat ?_ hz
  obtain ⟨ns',pn,pp⟩:=zfs pk R.prs
  have hg:(s.heap.update a (Obj.putSet (order.filterMap (es[·]?)) t')).get? a=some { o with data:=.set (order.filterMap (es[·]?)) (ep+1) t' }:=by
   have z:=Heap.get?_update_self (Obj.putSet (order.filterMap (es[·]?)) t') R.at' (by rw [putSet_of _ t' R.dat];rfl)
   rwa [putSet_of _ t' R.dat] at z
  have hmask:t'.mask=m-1:=by
   obtain ⟨t2,o2,e2,q1,_⟩:=zd9 t (es.map (·.1)) hw (by rw [Array.size_map,R.ok.sz];lia)
   rw [e] at e2
   cases e2
   rw [q1,em]
  refine h _ ns' _ (order.filterMap (es[·]?)) (ep+1) t' (Heap.SameBut.update _ a _) ⟨hg,R.ex,rfl,ElemR.keeps pp R.at' R.ex (Heap.SameBut.update _ a _),(pn.map _).nodup_iff.mpr R.nd,by rw [sz];exact ok,zdH e hp,fun z=>by rw [hl];exact R.led z⟩ pn ?_
  rw [hmask]
  rw [R.ok.sz,hlen] at hlt
  lia
 ·have hr:t.roomFor more=none:=by unfold SetTable.roomFor;rw [if_neg hc]
  rw [hr]
  dsimp only
  refine wpAny_pure ?_
  have:=h s.heap ns o es ep t (Heap.SameBut.refl a s.heap) R (.refl _) (by rw [hfill,hlen] at hc;lia)
  cases s
  exact this
theorem zb5 {a:Addr}{Q:Array (Int×Value)->Shared->Prop}{o:Obj}{es:Array (Int×Value)}{ep:Nat}{t:SetTable}(R:GSet w s.heap a o es ep t)(others:List Addr)(f:Option Addr)
  (h:∀ es':Array (Int×Value),es'.toList.Perm es.toList->Q es' s) : wpAny (model prog w) A (setWalkUnseen a others f) Q E s:=by
 have walk:wpAny (model prog w) A (setWalk a) Q E s:=by
  unfold setWalk setsByText
  refine wpAny_bind (R.state ?_)
  dsimp only
  refine wpAny_bind (wpAny_bind (wpAny_askSetting (wpAny_pure ?_)))
  cases hb:byTx w with
  | true =>
   refine zbi hb (wpAny_bind (wpAny_askSetting (wpAny_pure (h _ (zf4 _ es)))))
  | false =>
   refine zao (by show ¬ (byTx w=true);rw [hb];decide) ?_
   refine zao (c:=((!t.plain&&decide (es.size>1))=true)) (by rw [R.ok.plain];simp) ?_
   refine wpAny_bind (zao (c:=((!t.led&&decide (es.size>1))=true)) (by rw [R.led hb];simp) (wpAny_pure (wpAny_pure (h es (.refl _)))))
 unfold setWalkUnseen setsByText
 refine wpAny_bind (R.state ?_)
 dsimp only
 refine wpAny_bind (wpAny_bind (wpAny_askSetting (wpAny_pure ?_)))
 refine zbi ?_ walk
 rw [R.ok.plain,Bool.and_true]
 show (byTx w||t.led||decide (es.size<=1))=true
 cases hb:byTx w with
 | true=>rfl
 | false=>rw [R.led hb];rfl
theorem zl7 {mask finger moves:Nat}{led plain:Bool}{hashes:Array Int}{t:SetTable}{order:Array Nat}(e:SetTable.laid mask finger moves led plain hashes=some (t,order)) : ∀ x∈t.place.toList,x<=mask:=by
 unfold SetTable.laid at e
 cases q:layClean mask hashes with
 | none=>rw [q] at e;cases e
 | some o =>
  rw [q] at e
  cases e
  intro x hx
  have hx':x∈((List.range (mask+1)).filterMap fun j=>(o.getD j none).map fun x=>(j,x)).map (·.1):=by simpa using hx
  obtain ⟨y,hy,rfl⟩:=List.mem_map.mp hx'
  obtain ⟨j,hj,hjy⟩:=List.mem_filterMap.mp hy
  have:=List.mem_range.mp hj
  cases q2:o.getD j none with
  | none=>rw [q2] at hjy;cases hjy
  | some z=>rw [q2] at hjy;cases hjy;show j<=mask;lia
theorem zhN {r a:Addr}{ms ns:List RP}{each:Sem Unit}{Q:Unit->Shared->Prop}(hra:r≠a)(hr:RwSet prog w s.heap r ms){o:Obj}{es:Array (Int×Value)}{ep:Nat}{t:SetTable}(Ra:RwRaw prog w s.heap a ns o es ep t)(hu:A.units<cLine)(hb:ms.length+ns.length<127)
  (he:∀ (s':Shared) (Q':Unit->Shared->Prop),s'.heap.get? a=some o->Q' () s'->wpAny (model prog w) A each Q' E s')
  (h:∀ h' ms',Heap.SameBut r s.heap h'->RwSet prog w h' r ms'->(∀ x,x∈ms'.map (·.1)↔x∈ms.map (·.1)\/x∈ns.map (·.1))->(∀ p∈ms',p∈ms\/p∈ns)->ms'.length<=ms.length+ns.length->Q () { s with heap:=h' }) :
  wpAny (model prog w) A (setMerge r a each) Q E s:=by
 have hlen:=Ra.len
 unfold setMerge
 refine zao (by simpa using hra) ?_
 refine wpAny_bind (Ra.g.state ?_)
 dsimp only
 by_cases hem:es.isEmpty=true
 ·refine zbi hem (wpAny_pure ?_)
  have e0:ns=[]:=by
   have z:es.size=0:=by simpa using hem
   rw [hlen] at z
   exact List.length_eq_zero_iff.mp z
  have:=h s.heap ms (Heap.SameBut.refl r s.heap) hr (fun x=>by rw [e0];simp) (fun p hp=>.inl hp) (by lia)
  cases s
  exact this
 refine zao hem ?_
 have prsk:∀ h',Heap.SameBut r s.heap h'->Paired (ElemR prog w h') es.toList ns:=fun h' sb=>za3 Ra.prs fun e q ⟨h1,h2,h3⟩=>⟨h1,h2,IsRow.keeps h3 fun o' ho' hc=>(sb.2 _ (zi7 hr _ _ ho' hc)).trans ho'⟩
 refine wpAny_bind (zlU hr (by lia) fun h1 ms1 o1 es1 ep1 t1 sb1 R1 pm1 room1=>?_)
 rw [hlen] at room1
 have hlen1:=R1.len
 have hm1:ms1.length=ms.length:=pm1.length_eq
 have Ra1:RwRaw prog w h1 a ns o es ep t:=⟨(sb1.2 a (Ne.symm hra)).trans Ra.at',Ra.ex,Ra.dat,prsk h1 sb1,Ra.nd,Ra.ok,Ra.rch,Ra.led⟩
 refine wpAny_bind (R1.g.state (s:={ s with heap:=h1 }) ?_)
 dsimp only
 have hfill:t1.fill=es1.size:=by unfold SetTable.fill;rw [R1.ok.nod,R1.ok.sz];rfl
 have ndd:t.dummies.isEmpty=true:=by rw [Ra.ok.nod];rfl
 have hz:es.size<=sizeLine:=by rw [hlen];exact fits_of_scanBound (by show _<4096;lia)
 by_cases hf:(t1.fill != 0)=true
 ·have hroad : t1.road t = .oneByOne := by unfold SetTable.road; rw [if_pos hf]
  rw [hroad]
  dsimp only
  refine wpAny_bind (zb5 (s:={ s with heap:=h1 }) Ra1.g _ _ fun es' pes=>?_)
  obtain ⟨ns',pns,pp⟩:=zfs pes Ra.prs
  refine wpAny_bind (PySem.MeetsSeq2.wpAny_forIn_array _ (fun rest _ s'=>∃ h' ms' rs,s'={ s with heap:=h' }/\Heap.SameBut r s.heap h'/\RwSet prog w h' r ms'/\Paired (ElemR prog w s.heap) rest rs/\(∀ x,(x∈ms'.map (·.1)\/x∈rs.map (·.1))↔(x∈ms.map (·.1)\/x∈ns.map (·.1)))/\(∀ p∈ms',p∈ms\/p∈ns)/\(∀ p∈rs,p∈ns)/\ms'.length+rs.length<=ms.length+ns.length) _ ?_ ?_ es' PUnit.unit
   ⟨h1,ms1,ns',rfl,sb1,R1.rset,pp,(fun x=>by rw [(pm1.map (·.1)).mem_iff,(pns.map (·.1)).mem_iff]),(fun p hp=>.inl (pm1.mem_iff.mp hp)),(fun p hp=>pns.mem_iff.mp hp),by rw [hm1,pns.length_eq];exact Nat.le_refl _⟩)
  ·rintro x rest b s' ⟨h',ms',rs,rfl,sb',hS',pr,mem',fr',fn',len'⟩
   cases pr with
   | cons rx rt =>
    rename_i n rs'
    obtain ⟨k1,k2,k3⟩:=rx
    obtain ⟨xh,xv⟩:=x
    have k1':xh=zav prog w n.1:=k1
    have k2':xv=.ref n.2:=k2
    subst k1' k2'
    have k3':IsRow prog w h' n.1 n.2:=k3.keeps fun o' ho' hc=>(sb'.2 _ (zi7 hr _ _ ho' hc)).trans ho'
    rw [List.length_cons] at len'
    dsimp only
    refine wpAny_bind (wpAny_holding (ziT (s:={ s with heap:=h' }) hS' hu k3' (by lia) fun h2 ms2 bb sb2 hS2 alt=>?_))
    have aa:h2.get? a=some o:=(sb2.2 a (Ne.symm hra)).trans ((sb'.2 a (Ne.symm hra)).trans Ra.at')
    refine wpAny_bind (he _ _ aa ?_)
    refine wpAny_bind (wpAny_setState_of (s:={ s with heap:=h2 }) aa Ra.dat Ra.ok.fits ?_)
    dsimp only
    refine zao (by simp) (wpAny_pure ?_)
    refine ⟨h2,ms2,rs',rfl,sb'.trans sb2,hS2,rt,(fun x=>?_),(fun p hp=>?_),(fun p hp=>fn' p (List.mem_cons_of_mem _ hp)),?_⟩
    ·rw [<- mem' x,List.map_cons,List.mem_cons]
     rcases alt with ⟨i1,rfl⟩ | ⟨i1,i2⟩
     ·constructor
      ·rintro (z | z)
       ·exact .inl z
       ·exact .inr (.inr z)
      ·rintro (z | z | z)
       ·exact .inl z
       ·rw [z];exact .inl i1
       ·exact .inr z
     ·rw [(i2.map (·.1)).mem_iff,List.map_cons,List.mem_cons]
      constructor
      ·rintro ((z | z) | z)
       ·exact .inr (.inl z)
       ·exact .inl z
       ·exact .inr (.inr z)
      ·rintro (z | z | z)
       ·exact .inl (.inr z)
       ·exact .inl (.inl z)
       ·exact .inr z
    ·rcases alt with ⟨_,rfl⟩ | ⟨_,i2⟩
     ·exact fr' p hp
     ·rcases List.mem_cons.mp (i2.mem_iff.mp hp) with rfl | hp
      ·exact .inr (fn' _ List.mem_cons_self)
      ·exact fr' p hp
    ·rcases alt with ⟨_,rfl⟩ | ⟨_,i2⟩
     ·lia
     ·rw [i2.length_eq,List.length_cons];lia
  ·rintro b s' ⟨h',ms',rs,rfl,sb',hS',pr,mem',fr',fn',len'⟩
   cases pr
   exact wpAny_pure (h h' ms' sb' hS' (fun x=>by rw [<- mem' x];simp) fr' (by rw [List.length_nil] at len';lia))
 ·have z0:es1.size=0:=by
   have:t1.fill=0:=by simpa using hf
   lia
  have ms0:ms=[]:=by
   rw [hlen1,hm1] at z0
   exact List.length_eq_zero_iff.mp z0
  by_cases hm:(t1.mask == t.mask&&t.dummies.isEmpty)=true
  ·have hroad:t1.road t=.slotForSlot:=by unfold SetTable.road;rw [if_neg hf,if_pos hm]
   rw [hroad]
   dsimp only
   refine wpAny_storeSet_of (s:={ s with heap:=h1 }) R1.at' R1.dat ?_ hz
   have hS2:=zgv (prog:=prog) (w:=w) (es':=es) (t':={ t with finger:=t1.finger,led:=t1.led&&t.led,moves:=t1.moves,plain:=t1.plain&&t.plain }) (ns':=ns) R1.at' R1.ex R1.dat (prsk h1 sb1) Ra.nd
    ⟨Ra.ok.sz,Ra.ok.rise,Ra.ok.inn,Ra.ok.nod,by show (t1.plain&&t.plain)=true;rw [R1.ok.plain,Ra.ok.plain];rfl,Ra.ok.msk,Ra.ok.room⟩ Ra.rch (fun z=>by show (t1.led&&t.led)=true;rw [R1.led z,Ra.led z];rfl)
   exact h _ ns (sb1.trans (Heap.SameBut.update _ r _)) hS2 (fun x=>by rw [ms0];simp) (fun p hp=>.inr hp) (by lia)
  ·have hroad:t1.road t=.clean:=by unfold SetTable.road;rw [if_neg hf,if_neg hm]
   rw [hroad]
   dsimp only
   obtain ⟨t2,order,e,q1,q2,q3,q4,q5,q6,q7⟩:=zgy (mask:=t1.mask) (zgY _ R1.ok.msk) t1.finger t1.moves (t1.led&&t.led) (t1.plain&&t.plain) (es.map (·.1)) (by rw [Array.size_map];lia)
   rw [Array.size_map] at q6 q7
   have pk:=zbM es order q7
   have sz:(order.filterMap (es[·]?)).size=es.size:=by
    have z:=pk.length_eq
    rw [Array.length_toList,Array.length_toList] at z
    exact z
   rw [e]
   refine wpAny_bind (zao (c:=((order.filterMap (es[·]?)).size != es.size)=true) (by rw [sz];simp) (wpAny_pure ?_))
   dsimp only
   obtain ⟨ns2,pn2,pp2⟩:=zfs pk (prsk h1 sb1)
   refine wpAny_storeSet_of (s:={ s with heap:=h1 }) R1.at' R1.dat ?_ (by rw [sz];exact hz)
   have inn2:∀ x∈t2.place.toList,x<=t2.mask:=by
    rw [q1]
    exact zl7 e
   have hS2:=zgv (prog:=prog) (w:=w) (es':=order.filterMap (es[·]?)) (t':=t2) (ns':=ns2) R1.at' R1.ex R1.dat pp2 ((pn2.map _).nodup_iff.mpr Ra.nd)
    ⟨by rw [sz];exact q6,(zgk e).1,inn2,q2,by rw [q5,R1.ok.plain,Ra.ok.plain];rfl,by rw [q1];exact R1.ok.msk,by rw [sz,q1,hlen];lia⟩ (ze7 e q7) (fun z=>by rw [q4,R1.led z,Ra.led z];rfl)
   exact h _ ns2 (sb1.trans (Heap.SameBut.update _ r _)) hS2 (fun x=>by rw [ms0,(pn2.map (·.1)).mem_iff];simp) (fun p hp=>.inr (pn2.mem_iff.mp hp)) (by rw [pn2.length_eq];lia)
theorem zjW {a:Addr}{ns:List RP}{Q:Value->Shared->Prop}(hS:RwSet prog w s.heap a ns)(hu:A.units<cLine)(hb:ns.length<127)
  (h:∀ h' ms',(∀ b o,s.heap.get? b=some o->h'.get? b=some o)->RwSet prog w h' s.heap.objs.size ms'->(∀ x,x∈ms'.map (·.1)↔x∈ns.map (·.1))->(∀ p∈ms',p∈ns)->ms'.length<=ns.length->Q (.ref s.heap.objs.size) { s with heap:=h' }) :
  wpAny (model prog w) A (Builtin.Frozenset.copyOf a) Q E s:=by
 obtain ⟨o,es,ep,t,R⟩:=hS.ex
 have hlt:a<s.heap.objs.size:=Heap.lt_size R.at'
 unfold Builtin.Frozenset.copyOf Builtin.Frozenset.baseOf
 refine wpAny_bind (wpAny_bind (wpAny_isInstance (zaA hS) sub_set_self (wpAny_pure ?_)))
 rw [if_pos rfl]
 refine wpAny_bind (zdW ?_)
 have R1:RwRaw prog w (s.heap.push (zai (!byTx w))) a ns o es ep t:=⟨Heap.get?_push_of_some _ R.at',R.ex,R.dat,za3 R.prs fun e q ⟨h1,h2,h3⟩=>⟨h1,h2,IsRow.keeps h3 fun o' ho' hc=>Heap.get?_push_of_some _ ho'⟩,R.nd,R.ok,R.rch,R.led⟩
 refine wpAny_bind (wpAny_pure ?_)
 refine wpAny_bind (zhN (s:={ s with heap:=s.heap.push (zai (!byTx w)) }) (Nat.ne_of_gt hlt) (zcJ s.heap) R1 hu (by simpa using hb) (fun s' Q' _ hq=>wpAny_pure hq) fun h' ms' sb hS' mem fr len=>wpAny_pure ?_)
 exact h h' ms' (fun b ob q=>(sb.2 b (Nat.ne_of_lt (Heap.lt_size q))).trans (Heap.get?_push_of_some _ q)) hS' (fun x=>by rw [mem x];simp) (fun p hp=>(fr p hp).resolve_left (fun z=>nomatch z)) (by simpa using len)
end
section
variable {prog:Program}{w:World}{A:Around}{E:Value->Shared->Prop}{s:Shared}
theorem RwRaw.keeps {h h':Heap}{a:Addr}{ps:List RP}{o:Obj}{es:Array (Int×Value)}{ep:Nat}{t:SetTable}(R:RwRaw prog w h a ps o es ep t)(k:∀ b o,h.get? b=some o->h'.get? b=some o) : RwRaw prog w h' a ps o es ep t :=
 ⟨k _ _ R.at',R.ex,R.dat,za3 R.prs fun e q ⟨h1,h2,h3⟩=>⟨h1,h2,IsRow.keeps h3 fun o' ho' hc=>k _ _ ho'⟩,R.nd,R.ok,R.rch,R.led⟩
theorem zom {a b:Addr}{ns ms:List RP}{Q:Value->Shared->Prop}(hab:a≠b)(ha:RwSet prog w s.heap a ns)(hb:RwSet prog w s.heap b ms)(hu:A.units+1<cLine)(hl:ns.length+ms.length<127)
  (h:∀ h' ks,(∀ b o,s.heap.get? b=some o->h'.get? b=some o)->RwSet prog w h' s.heap.objs.size ks->(∀ x,x∈ks.map (·.1)↔x∈ns.map (·.1)\/x∈ms.map (·.1))->(∀ p∈ks,p∈ns\/p∈ms)->ks.length<=ns.length+ms.length->Q (.ref s.heap.objs.size) { s with heap:=h' }) :
  wpAny (model prog w) A (binaryOp .BitOr (.ref a) (.ref b)) Q E s:=by
 refine wpAny_binaryOp_same (T := "set") (id := "set.__or__") (zaA ha) (zaA hb) F.fills_set_or F.slot_set_or (wpAny_call_entry F.slot_set_or (zaA ha) zfK ?_ (F.args_set_or_2 _ _))
 unfold Builtin.«frozenset.__or__»
 show wpAny _ _ (Builtin.Frozenset.slot1 "__or__" ⟨[.ref a,.ref b],[]⟩ >>= _) _ _ _
 unfold Builtin.Frozenset.slot1
 refine wpAny_bind (wpAny_bind (wpAny_pure (wpAny_pure ?_)))
 dsimp only
 refine wpAny_bind (wpAny_bind (zbq (zaA ha) (zbq (v:=.ref b) (zaA hb) ?_)))
 refine zao (by decide) ?_
 refine wpAny_bind (wpAny_pure (wpAny_bind (wpAny_bind (zjW ha (by first | exact hu | (simp;lia) | (show A.units+1<cLine;lia) | lia) (by lia) fun h1 ks1 k1 hS1 m1 f1 l1=>?_))))
 obtain ⟨ob,es,ep,t,Rb⟩:=hb.ex
 have hbl:b<s.heap.objs.size:=Heap.lt_size Rb.at'
 refine zbi (by simp;exact Ne.symm hab) ?_
 refine wpAny_bind (wpAny_pure ?_)
 have Rb1:RwRaw prog w h1 b ms ob es ep t:=Rb.keeps k1
 refine wpAny_bind (wpAny_holding ?_)
 unfold Builtin.Frozenset.updateFrom
 refine wpAny_bind (zbq (s:={ s with heap:=h1 }) (zaA Rb1.rset) (zbi rfl ?_))
 refine wpAny_bind (wpAny_pure ?_)
 unfold Builtin.Frozenset.merge
 refine wpAny_bind (wpAny_setEpoch_of (s:={ s with heap:=h1 }) Rb1.at' Rb1.dat Rb1.ok.fits ?_)
 refine zhN (s:={ s with heap:=h1 }) (Nat.ne_of_gt hbl) hS1 Rb1 (by first | exact hu | (simp;lia) | (show A.units+1<cLine;lia) | lia) (by lia) (fun s' Q' ha' hq=>?_) fun h2 ks2 sb2 hS2 m2 f2 l2=>?_
 ·unfold Builtin.Frozenset.unchanged
  exact wpAny_bind (wpAny_setEpoch_of ha' Rb1.dat Rb1.ok.fits (zao (by simp) (wpAny_pure hq)))
 ·refine wpAny_pure (wpAny_pure ⟨_,rfl,fun z=>(nomatch z),h h2 ks2 (fun c o q=>?_) hS2 (fun x=>by rw [m2 x,m1 x]) (fun p hp=>(f2 p hp).imp_left (f1 p)) (by lia)⟩)
  exact (sb2.2 c (Nat.ne_of_lt (Heap.lt_size q))).trans (k1 c o q)
end
theorem zeS:entryFor table "set.__and__" = some Builtin.«frozenset.__and__» := entryFor_alias (id' := "frozenset.__and__") (by kernel_rfl) rfl (by decide +kernel) (by kernel_rfl)
theorem zeJ:entryFor table "set.__sub__" = some Builtin.«frozenset.__sub__» := entryFor_alias (id' := "frozenset.__sub__") (by kernel_rfl) rfl (by decide +kernel) (by kernel_rfl)
section
variable {prog:Program}{w:World}{A:Around}{E:Value->Shared->Prop}{s:Shared}
theorem zjU {a x:Addr}{ps:List RP}{k:List Int}{o:Obj}{es:Array (Int×Value)}{ep:Nat}{t:SetTable}{Q:Option Nat->Shared->Prop}(R:RwRaw prog w s.heap a ps o es ep t)(hu:A.units<cLine)(hx:IsRow prog w s.heap k x)
  (h:∀ r:Option Nat,(r.isSome=true↔k∈ps.map (·.1))->Q r s) : wpAny (model prog w) A (setFind a (.ref x) (zav prog w k)) Q E s:=by
 unfold setFind setFindIn
 refine wpAny_bind (wpAny_setState_of R.at' R.dat R.ok.fits ?_)
 dsimp only
 refine zao (by show ¬ ((false&&_&&_)=true);simp) ?_
 refine wpAny_bind (zgK (adding:=false) R hu hx (fun hin r hr=>?_) (fun hout N n2 n3 n4=>?_))
 ·exact wpAny_pure (h r ⟨fun _=>hin,fun _=>hr rfl⟩)
 ·exact wpAny_pure (h none ⟨fun z=>(nomatch z),fun z=>absurd z hout⟩)
def zgo (prog:Program)(w:World)(s:Shared)(r:Addr)(keep:List Int->Prop)(ws:List RP)(rest:List (Int×Value))(s':Shared) : Prop :=
 ∃ h' ks rs,s'={ s with heap:=h' }/\Heap.SameBut r s.heap h'/\RwSet prog w h' r ks/\Paired (ElemR prog w s.heap) rest rs/\(∀ x,(x∈ks.map (·.1)\/(x∈rs.map (·.1)/\keep x))↔(x∈ws.map (·.1)/\keep x))/\(∀ p∈ks,p∈ws)/\(∀ p∈rs,p∈ws)/\ks.length+rs.length<=ws.length
theorem zdt {h h':Heap}{r b:Addr}{k:List Int}{o:Obj}(sb:Heap.SameBut r h h')(hr:h.get? r=some o)(hc:o.cls=.type "set")(x:IsRow prog w h k b) : IsRow prog w h' k b:=x.keeps fun o' ho' hc'=>(sb.2 _ fun z=>by
 rw [z,hr] at ho'
 cases ho'
 rw [hc] at hc'
 injection hc' with q
 exact absurd q (by decide)).trans ho'
theorem zgN {r:Addr}{keep:List Int->Prop}{ws:List RP}{e:Int×Value}{rest:List (Int×Value)}{s':Shared}{k:List Int}{b:Addr}(I:zgo prog w s r keep ws (e::rest) s')(hk:ElemR prog w s.heap e (k,b))(hn : ¬ keep k) : zgo prog w s r keep ws rest s':=by
 obtain ⟨h',ks,rs,e1,sb,hS,pr,mem,fr,fn,len⟩:=I
 cases pr with
 | cons rx rt =>
  rename_i n rs'
  have en:n.1=k:=by
   have:=rx.2.1.symm.trans hk.2.1
   injection this with this
   have h2:=hk.2.2
   have h1:=rx.2.2
   rw [this] at h1
   exact (h1.inj h2)
  refine ⟨h',ks,rs',e1,sb,hS,rt,fun x=>?_,fr,fun p hp=>fn p (List.mem_cons_of_mem _ hp),by rw [List.length_cons] at len;lia⟩
  rw [<- mem x,List.map_cons,List.mem_cons,en]
  constructor
  ·rintro (z | ⟨z,y⟩)
   ·exact .inl z
   ·exact .inr ⟨.inr z,y⟩
  ·rintro (z | ⟨z | z,y⟩)
   ·exact .inl z
   ·exact absurd (z ▸ y) hn
   ·exact .inr ⟨z,y⟩
theorem zhJ {r:Addr}{keep:List Int->Prop}{ws:List RP}{e:Int×Value}{rest:List (Int×Value)}{s':Shared}{k:List Int}{b:Addr}{or:Obj}(hr:s.heap.get? r=some or)(hc:or.cls=.type "set")(hu:A.units<cLine)(hw:ws.length<127)(I:zgo prog w s r keep ws (e::rest) s')(hk:ElemR prog w s.heap e (k,b))(hy:keep k){Q:Bool->Shared->Prop}(hq:∀ bb s'',zgo prog w s r keep ws rest s''->Q bb s'') : wpAny (model prog w) A (setAddHashed r e.2 e.1) Q E s':=by
 obtain ⟨h',ks,rs,e1,sb,hS,pr,mem,fr,fn,len⟩:=I
 cases pr with
 | cons rx rt =>
  rename_i n rs'
  obtain ⟨k1,k2,k3⟩:=rx
  have en:n.1=k:=by
   have:=k2.symm.trans hk.2.1
   injection this with this
   have h2:=hk.2.2
   rw [this] at k3
   exact (k3.inj h2)
  rw [k1,k2]
  subst e1
  rw [List.length_cons] at len
  refine ziT (s:={ s with heap:=h' }) hS hu (zdt sb hr hc k3) (by lia) fun h2 ms2 bb sb2 hS2 alt=>hq bb _ ⟨h2,ms2,rs',rfl,sb.trans sb2,hS2,rt,fun x=>?_,fun p hp=>?_,fun p hp=>fn p (List.mem_cons_of_mem _ hp),?_⟩
  ·rw [<- mem x,List.map_cons,List.mem_cons]
   rcases alt with ⟨i1,rfl⟩ | ⟨i1,i2⟩
   ·constructor
    ·rintro (z | ⟨z,y⟩)
     ·exact .inl z
     ·exact .inr ⟨.inr z,y⟩
    ·rintro (z | ⟨z | z,y⟩)
     ·exact .inl z
     ·rw [z];exact .inl i1
     ·exact .inr ⟨z,y⟩
   ·rw [(i2.map (·.1)).mem_iff,List.map_cons,List.mem_cons]
    constructor
    ·rintro ((z | z) | ⟨z,y⟩)
     ·exact .inr ⟨.inl z,by rw [z];show keep n.1;rw [en];exact hy⟩
     ·exact .inl z
     ·exact .inr ⟨.inr z,y⟩
    ·rintro (z | ⟨z | z,y⟩)
     ·exact .inl (.inr z)
     ·exact .inl (.inl z)
     ·exact .inr ⟨z,y⟩
  ·rcases alt with ⟨_,rfl⟩ | ⟨_,i2⟩
   ·exact fr p hp
   ·rcases List.mem_cons.mp (i2.mem_iff.mp hp) with rfl | hp
    ·exact fn _ List.mem_cons_self
    ·exact fr p hp
  ·rcases alt with ⟨_,rfl⟩ | ⟨_,i2⟩
   ·lia
   ·rw [i2.length_eq,List.length_cons];lia
theorem zbB {a:Addr}{ps:List RP}{o:Obj}{es:Array (Int×Value)}{ep:Nat}{t:SetTable}{Q:Nat->Shared->Prop}(R:RwRaw prog w s.heap a ps o es ep t)(h:Q ps.length s) : wpAny (model prog w) A (Builtin.Frozenset.sizeOf a) Q E s:=by
 unfold Builtin.Frozenset.sizeOf setEntries
 refine wpAny_bind (wpAny_bind (R.g.state (wpAny_pure (wpAny_pure ?_))))
 rw [R.len]
 exact h
end
section
variable {prog:Program}{w:World}{A:Around}{E:Value->Shared->Prop}{s:Shared}
theorem zcZ {r d q:Addr}{id:String}{wk ak:List RP}{od oq or:Obj}{ed eq:Array (Int×Value)}{pd pq:Nat}{td tq:SetTable}{Q:PUnit->Shared->Prop}(hrd:r≠d)(hrq:r≠q)(hr:s.heap.get? r=some or)(hc:or.cls=.type "set")(hS:RwSet prog w s.heap r [])(Rd:RwRaw prog w s.heap d wk od ed pd td)(Rq:RwRaw prog w s.heap q ak oq eq pq tq)(hu:A.units<cLine)(hw:wk.length<127){es':Array (Int×Value)}(pe:es'.toList.Perm ed.toList)
  (h:∀ h' ks,Heap.SameBut r s.heap h'->RwSet prog w h' r ks->(∀ x,x∈ks.map (·.1)↔x∈wk.map (·.1)/\x∈ak.map (·.1))->(∀ p∈ks,p∈wk)->Q ⟨⟩ { s with heap:=h' }) :
  wpAny (model prog w) A (forIn es' PUnit.unit fun (x:Int×Value) (_:PUnit)=>do
   holding [x.2] do
    if (<- setFind q x.2 x.1).isSome then
     let _ <- setAddHashed r x.2 x.1
   Builtin.Frozenset.unchanged id d pd
   pure (ForInStep.yield PUnit.unit)) Q E s:=by
 obtain ⟨wk',pn,pp⟩:=zfs pe Rd.prs
 refine PySem.MeetsSeq2.wpAny_forIn_array _ (fun rest _ s'=>zgo prog w s r (fun x=>x∈ak.map (·.1)) wk rest s') _ ?_ ?_ es' PUnit.unit ⟨s.heap,[],wk',rfl,Heap.SameBut.refl r s.heap,hS,pp,fun x=>by rw [(pn.map (·.1)).mem_iff];simp,fun p hp=>(nomatch hp),fun p hp=>pn.mem_iff.mp hp,by rw [pn.length_eq];simp⟩
 ·rintro x rest b s' I
  have I0:=I
  obtain ⟨h',ks,rs,e1,sb,hS',pr,mem,fr,fn,len⟩:=I0
  subst e1
  cases pr with
  | cons rx rt =>
   rename_i n rs'
   have rx0:=rx
   obtain ⟨k1,k2,k3⟩:=rx0
   have Rq':RwRaw prog w h' q ak oq eq pq tq:=⟨(sb.2 q (Ne.symm hrq)).trans Rq.at',Rq.ex,Rq.dat,za3 Rq.prs fun e p ⟨h1,h2,h3⟩=>⟨h1,h2,zdt sb hr hc h3⟩,Rq.nd,Rq.ok,Rq.rch,Rq.led⟩
   have un:∀ {s'':Shared} {Q':Unit->Shared->Prop},zgo prog w s r (fun x=>x∈ak.map (·.1)) wk rest s''->Q' () s''->wpAny (model prog w) A (Builtin.Frozenset.unchanged id d pd) Q' E s'':=by
    rintro s'' Q' ⟨h2,_,_,rfl,sb2,_⟩ hq
    unfold Builtin.Frozenset.unchanged
    exact wpAny_bind (wpAny_setEpoch_of (s:={ s with heap:=h2 }) ((sb2.2 d (Ne.symm hrd)).trans Rd.at') Rd.dat Rd.ok.fits (zao (by simp) (wpAny_pure hq)))
   refine wpAny_bind (wpAny_holding ?_)
   rw [k1,k2]
   refine wpAny_bind (zjU (s:={ s with heap:=h' }) Rq' hu (zdt sb hr hc k3) fun fd hfd=>?_)
   refine zbO (fun c=>?_) (fun c=>?_)
   ·have hin:=hfd.mp c
    rw [<- k1,<- k2]
    refine wpAny_bind (zhJ hr hc hu hw I rx hin fun bb s'' I2=>wpAny_pure ?_)
    exact wpAny_bind (un I2 (wpAny_pure I2))
   ·have I2:=zgN I rx (fun z=>c (hfd.mpr z))
    exact wpAny_pure (wpAny_bind (un I2 (wpAny_pure I2)))
 ·rintro b s' ⟨h',ks,rs,rfl,sb,hS',pr,mem,fr,fn,len⟩
  cases pr
  exact h h' ks sb hS' (fun x=>by rw [<- mem x];simp) fr
theorem zkZ {a b:Addr}{id:String}{ns ms:List RP}{Q:Value->Shared->Prop}(hab:a≠b)(ha:RwSet prog w s.heap a ns)(hb:RwSet prog w s.heap b ms)(hu:A.units<cLine)(hl:ns.length+ms.length<127)
  (h:∀ h' ks,(∀ b o,s.heap.get? b=some o->h'.get? b=some o)->RwSet prog w h' s.heap.objs.size ks->(∀ x,x∈ks.map (·.1)↔x∈ns.map (·.1)/\x∈ms.map (·.1))->(∀ p∈ks,p∈ns\/p∈ms)->Q (.ref s.heap.objs.size) { s with heap:=h' }) :
  wpAny (model prog w) A (Builtin.Frozenset.intersection id a (.ref b)) Q E s:=by
 obtain ⟨oa,ea,pa,ta,Ra⟩:=ha.ex
 obtain ⟨ob,eb,pb,tb,Rb⟩:=hb.ex
 have hal:a<s.heap.objs.size:=Heap.lt_size Ra.at'
 have hbl:b<s.heap.objs.size:=Heap.lt_size Rb.at'
 unfold Builtin.Frozenset.intersection
 refine zao (by simp;exact Ne.symm hab) ?_
 unfold Builtin.Frozenset.baseOf
 refine wpAny_bind (wpAny_bind (wpAny_isInstance (zaA ha) sub_set_self (wpAny_pure ?_)))
 rw [if_pos rfl]
 refine wpAny_bind (zdW ?_)
 refine wpAny_bind (wpAny_pure ?_)
 have kp:∀ c o,s.heap.get? c=some o->(s.heap.push (zai (!byTx w))).get? c=some o:=fun c o e=>Heap.get?_push_of_some _ e
 have Ra1:=Ra.keeps kp
 have Rb1:=Rb.keeps kp
 have hr:(s.heap.push (zai (!byTx w))).get? s.heap.objs.size=some (zai (!byTx w)):=Heap.get?_push_size _ rfl
 refine wpAny_bind (wpAny_holding ?_)
 refine wpAny_bind (zbq (s:={ s with heap:=s.heap.push (zai (!byTx w)) }) (v:=.ref b) (zaA Rb1.rset) (zbi rfl ?_))
 refine wpAny_bind (wpAny_pure ?_)
 refine wpAny_bind (zbB (s:={ s with heap:=s.heap.push (zai (!byTx w)) }) Rb1 ?_)
 refine wpAny_bind (zbB (s:={ s with heap:=s.heap.push (zai (!byTx w)) }) Ra1 ?_)
 by_cases c:ms.length>ns.length
 ·rw [if_pos c]
  dsimp only
  refine wpAny_bind (wpAny_setEpoch_of (s:={ s with heap:=s.heap.push (zai (!byTx w)) }) Ra1.at' Ra1.dat Ra1.ok.fits ?_)
  refine wpAny_bind (zb5 (s:={ s with heap:=s.heap.push (zai (!byTx w)) }) Ra1.g _ _ fun es' pe=>?_)
  refine wpAny_bind (zcZ (s:={ s with heap:=s.heap.push (zai (!byTx w)) }) (Nat.ne_of_gt hal) (Nat.ne_of_gt hbl) hr rfl (zcJ s.heap) Ra1 Rb1 hu (by lia) pe fun h' ks sb hS mem fr=>?_)
  exact wpAny_pure (wpAny_pure (h h' ks (fun c o e=>(sb.2 c (Nat.ne_of_lt (Heap.lt_size e))).trans (kp c o e)) hS mem fun p hp=>.inl (fr p hp)))
 ·rw [if_neg c]
  dsimp only
  refine wpAny_bind (wpAny_setEpoch_of (s:={ s with heap:=s.heap.push (zai (!byTx w)) }) Rb1.at' Rb1.dat Rb1.ok.fits ?_)
  refine wpAny_bind (zb5 (s:={ s with heap:=s.heap.push (zai (!byTx w)) }) Rb1.g _ _ fun es' pe=>?_)
  refine wpAny_bind (zcZ (s:={ s with heap:=s.heap.push (zai (!byTx w)) }) (Nat.ne_of_gt hbl) (Nat.ne_of_gt hal) hr rfl (zcJ s.heap) Rb1 Ra1 hu (by lia) pe fun h' ks sb hS mem fr=>?_)
  exact wpAny_pure (wpAny_pure (h h' ks (fun c o e=>(sb.2 c (Nat.ne_of_lt (Heap.lt_size e))).trans (kp c o e)) hS (fun x=>(mem x).trans ⟨fun z=>⟨z.2,z.1⟩,fun z=>⟨z.2,z.1⟩⟩) fun p hp=>.inr (fr p hp)))
theorem znf {a b:Addr}{ns ms:List RP}{Q:Value->Shared->Prop}(hab:a≠b)(ha:RwSet prog w s.heap a ns)(hb:RwSet prog w s.heap b ms)(hu:A.units+1<cLine)(hl:ns.length+ms.length<127)
  (h:∀ h' ks,(∀ b o,s.heap.get? b=some o->h'.get? b=some o)->RwSet prog w h' s.heap.objs.size ks->(∀ x,x∈ks.map (·.1)↔x∈ns.map (·.1)/\x∈ms.map (·.1))->(∀ p∈ks,p∈ns\/p∈ms)->Q (.ref s.heap.objs.size) { s with heap:=h' }) :
  wpAny (model prog w) A (binaryOp .BitAnd (.ref a) (.ref b)) Q E s:=by
 refine wpAny_binaryOp_same (T := "set") (id := "set.__and__") (zaA ha) (zaA hb) F.fills_set_and F.slot_set_and (wpAny_call_entry F.slot_set_and (zaA ha) zeS ?_ (F.args_set_and_2 _ _))
 unfold Builtin.«frozenset.__and__»
 show wpAny _ _ (Builtin.Frozenset.slot1 "__and__" ⟨[.ref a,.ref b],[]⟩ >>= _) _ _ _
 unfold Builtin.Frozenset.slot1
 refine wpAny_bind (wpAny_bind (wpAny_pure (wpAny_pure ?_)))
 dsimp only
 refine wpAny_bind (wpAny_bind (zbq (zaA ha) (zbq (v:=.ref b) (zaA hb) ?_)))
 refine zao (by decide) ?_
 refine wpAny_bind (wpAny_pure (wpAny_bind (zkZ hab ha hb (by first | exact hu | (show A.units+1<cLine;lia) | (simp;lia)) hl fun h1 ks1 k1 hS1 m1 f1=>?_)))
 exact wpAny_pure ⟨_,rfl,fun z=>(nomatch z),h h1 ks1 k1 hS1 m1 f1⟩
end
section
variable {prog:Program}{w:World}{A:Around}{E:Value->Shared->Prop}{s:Shared}
theorem zgc {r d q:Addr}{id:String}{wk ak:List RP}{od oq or:Obj}{ed eq:Array (Int×Value)}{pd pq:Nat}{td tq:SetTable}{Q:PUnit->Shared->Prop}(hrd:r≠d)(hrq:r≠q)(hr:s.heap.get? r=some or)(hc:or.cls=.type "set")(hS:RwSet prog w s.heap r [])(Rd:RwRaw prog w s.heap d wk od ed pd td)(Rq:RwRaw prog w s.heap q ak oq eq pq tq)(hu:A.units<cLine)(hw:wk.length<127){es':Array (Int×Value)}(pe:es'.toList.Perm ed.toList)
  (h:∀ h' ks,Heap.SameBut r s.heap h'->RwSet prog w h' r ks->(∀ x,x∈ks.map (·.1)↔x∈wk.map (·.1)/\x∉ak.map (·.1))->(∀ p∈ks,p∈wk)->Q ⟨⟩ { s with heap:=h' }) :
  wpAny (model prog w) A (forIn es' PUnit.unit fun (x:Int×Value) (_:PUnit)=>do
   holding [x.2] do
    if true then
     let y <- setFind q x.2 x.1
     let there <- pure y.isSome
     if !there then
      let _ <- setAddHashed r x.2 x.1
    else
     let y <- dictFind q x.2 x.1
     let there <- pure y.isSome
     if !there then
      let _ <- setAddHashed r x.2 x.1
   Builtin.Frozenset.unchanged id d pd
   pure (ForInStep.yield PUnit.unit)) Q E s:=by
 obtain ⟨wk',pn,pp⟩:=zfs pe Rd.prs
 refine PySem.MeetsSeq2.wpAny_forIn_array _ (fun rest _ s'=>zgo prog w s r (fun x=>x∉ak.map (·.1)) wk rest s') _ ?_ ?_ es' PUnit.unit ⟨s.heap,[],wk',rfl,Heap.SameBut.refl r s.heap,hS,pp,fun x=>by rw [(pn.map (·.1)).mem_iff];simp,fun p hp=>(nomatch hp),fun p hp=>pn.mem_iff.mp hp,by rw [pn.length_eq];simp⟩
 ·rintro x rest b s' I
  have I0:=I
  obtain ⟨h',ks,rs,e1,sb,hS',pr,mem,fr,fn,len⟩:=I0
  subst e1
  cases pr with
  | cons rx rt =>
   rename_i n rs'
   have rx0:=rx
   obtain ⟨k1,k2,k3⟩:=rx0
   have Rq':RwRaw prog w h' q ak oq eq pq tq:=⟨(sb.2 q (Ne.symm hrq)).trans Rq.at',Rq.ex,Rq.dat,za3 Rq.prs fun e p ⟨h1,h2,h3⟩=>⟨h1,h2,zdt sb hr hc h3⟩,Rq.nd,Rq.ok,Rq.rch,Rq.led⟩
   have un:∀ {s'':Shared} {Q':Unit->Shared->Prop},zgo prog w s r (fun x=>x∉ak.map (·.1)) wk rest s''->Q' () s''->wpAny (model prog w) A (Builtin.Frozenset.unchanged id d pd) Q' E s'':=by
    rintro s'' Q' ⟨h2,_,_,rfl,sb2,_⟩ hq
    unfold Builtin.Frozenset.unchanged
    exact wpAny_bind (wpAny_setEpoch_of (s:={ s with heap:=h2 }) ((sb2.2 d (Ne.symm hrd)).trans Rd.at') Rd.dat Rd.ok.fits (zao (by simp) (wpAny_pure hq)))
   refine wpAny_bind (wpAny_holding ?_)
   rw [k1,k2]
   refine wpAny_bind (zjU (s:={ s with heap:=h' }) Rq' hu (zdt sb hr hc k3) fun fd hfd=>wpAny_bind (wpAny_pure ?_))
   refine zbO (fun c=>?_) (fun c=>?_)
   ·have hin:n.1∉ak.map (·.1):=fun z=>by rw [hfd.mpr z] at c;cases c
    rw [<- k1,<- k2]
    refine wpAny_bind (zhJ hr hc hu hw I rx hin fun bb s'' I2=>wpAny_pure ?_)
    exact wpAny_bind (un I2 (wpAny_pure I2))
   ·have I2:=zgN I rx (fun z=>c (by
     cases q:fd.isSome with
     | false=>rfl
     | true=>exact absurd (hfd.mp q) z))
    exact wpAny_pure (wpAny_bind (un I2 (wpAny_pure I2)))
 ·rintro b s' ⟨h',ks,rs,rfl,sb,hS',pr,mem,fr,fn,len⟩
  cases pr
  exact h h' ks sb hS' (fun x=>by rw [<- mem x];simp) fr
theorem zl4 {a b:Addr}{id:String}{ns ms:List RP}{Q:Value->Shared->Prop}(ha:RwSet prog w s.heap a ns)(hb:RwSet prog w s.heap b ms)(hu:A.units<cLine)(hl:ns.length+ms.length<127)
  (big:ns.length / 4>ms.length->wpAny (model prog w) A (do
   let r <- Builtin.Frozenset.copyOf a
   let c <- Builtin.Frozenset.addrOf r
   holding [r] (Builtin.Frozenset.differenceUpdate id c (.ref b))
   return r) Q E s)
  (h:∀ h' ks,(∀ b o,s.heap.get? b=some o->h'.get? b=some o)->RwSet prog w h' s.heap.objs.size ks->(∀ x,x∈ks.map (·.1)↔x∈ns.map (·.1)/\x∉ms.map (·.1))->(∀ p∈ks,p∈ns)->Q (.ref s.heap.objs.size) { s with heap:=h' }) :
  wpAny (model prog w) A (Builtin.Frozenset.difference id a (.ref b)) Q E s:=by
 obtain ⟨oa,ea,pa,ta,Ra⟩:=ha.ex
 obtain ⟨ob,eb,pb,tb,Rb⟩:=hb.ex
 have hal:a<s.heap.objs.size:=Heap.lt_size Ra.at'
 have hbl:b<s.heap.objs.size:=Heap.lt_size Rb.at'
 unfold Builtin.Frozenset.difference
 dsimp only
 refine wpAny_bind (zbq (v:=.ref b) (zaA hb) ?_)
 refine zao (by decide) ?_
 refine wpAny_bind (wpAny_pure ?_)
 refine zao (by simp) ?_
 refine wpAny_bind (zbB Rb ?_)
 refine wpAny_bind (zbB Ra ?_)
 refine zbO (fun c=>?_) (fun c=>?_)
 ·exact wpAny_bind (wpAny_rule (big c))
 unfold Builtin.Frozenset.baseOf
 refine wpAny_bind (wpAny_bind (wpAny_isInstance (zaA ha) sub_set_self (wpAny_pure ?_)))
 rw [if_pos rfl]
 refine wpAny_bind (zdW ?_)
 refine wpAny_bind (wpAny_pure ?_)
 have kp:∀ c o,s.heap.get? c=some o->(s.heap.push (zai (!byTx w))).get? c=some o:=fun c o e=>Heap.get?_push_of_some _ e
 have Ra1:=Ra.keeps kp
 have Rb1:=Rb.keeps kp
 have hr:(s.heap.push (zai (!byTx w))).get? s.heap.objs.size=some (zai (!byTx w)):=Heap.get?_push_size _ rfl
 refine wpAny_bind (wpAny_setEpoch_of (s:={ s with heap:=s.heap.push (zai (!byTx w)) }) Ra1.at' Ra1.dat Ra1.ok.fits ?_)
 refine wpAny_bind (wpAny_holding ?_)
 refine wpAny_bind (zbi rfl (zb5 (s:={ s with heap:=s.heap.push (zai (!byTx w)) }) Ra1.g _ _ fun es' pe=>?_))
 refine wpAny_bind (zgc (s:={ s with heap:=s.heap.push (zai (!byTx w)) }) (Nat.ne_of_gt hal) (Nat.ne_of_gt hbl) hr rfl (zcJ s.heap) Ra1 Rb1 hu (by lia) pe fun h' ks sb hS mem fr=>?_)
 exact wpAny_pure (wpAny_pure (h h' ks (fun c o e=>(sb.2 c (Nat.ne_of_lt (Heap.lt_size e))).trans (kp c o e)) hS mem fr))
end
theorem zdu {xs:Array Nat}(h:Rise xs.toList)(j:Nat) : (xs[below xs j]? == some j)=true↔j∈xs.toList:=by
 constructor
 ·intro z
  exact Array.mem_toList_iff.mpr (Array.mem_of_getElem? (eq_of_beq z))
 ·intro z
  cases q:(xs[below xs j]? == some j) with
  | true=>rfl
  | false =>
   exfalso
   let t:SetTable:={ SetTable.fresh 0 0 true with place:=xs }
   have:t.slot j=.empty\/t.slot j=.dummy:=by
    show (let i:=below xs j;if xs[i]? == some j then Slot.live i else if has t.dummies j then .dummy else .empty)=_\/(let i:=below xs j;if xs[i]? == some j then Slot.live i else if has t.dummies j then .dummy else .empty)=_
    dsimp only
    rw [q]
    by_cases c:has t.dummies j=true
    ·right;rw [if_neg (by simp),if_pos c]
    ·left;rw [if_neg (by simp),if_neg c]
   exact zbE (t:=t) h this z
structure DOk (t:SetTable) (n:Nat) : Prop where
 sz:t.place.size=n
 rise:Rise t.place.toList
 riseD:Rise t.dummies.toList
 dis:∀ x∈t.dummies.toList,x∉t.place.toList
 plain:t.plain=true
 whole:∃ u:SetTable,TOk u (n+t.dummies.size)/\u.mask=t.mask/\∀ x,x∈u.place.toList↔(x∈t.place.toList\/x∈t.dummies.toList)
section
variable {t:SetTable}{n:Nat}
theorem DOk.fits (h:DOk t n) : t.fits n=true:=by
 obtain ⟨u,hu,em,_⟩:=h.whole
 have h2:=hu.room
 unfold SetTable.fits SetTable.fill
 rw [h.sz]
 simp
 lia
theorem DOk.w (h:DOk t n) : WOk t n:=⟨h.fits,h.sz,h.rise,h.plain⟩
theorem TOk.d (h:TOk t n) : DOk t n:=by
 refine ⟨h.sz,h.rise,?_,?_,h.plain,t,?_,rfl,fun x=>?_⟩
 ·rw [h.nod];exact List.Pairwise.nil
 ·rw [h.nod];intro x hx;simp at hx
 ·rw [h.nod];exact h
 ·rw [h.nod];simp
theorem ze4 (h:DOk t n){j:Nat}(hj:j∈t.place.toList) : ∃ i,t.slot j=.live i/\t.place[i]?=some j:=by
 refine ⟨below t.place j,?_,eq_of_beq ((zdu h.rise j).mpr hj)⟩
 show (if t.place[below t.place j]? == some j then Slot.live (below t.place j) else _)=_
 rw [if_pos ((zdu h.rise j).mpr hj)]
theorem zgV (h:DOk t n){j:Nat}(hj:j∉t.place.toList)(hd:j∈t.dummies.toList) : t.slot j=.dummy:=by
 show (if t.place[below t.place j]? == some j then Slot.live (below t.place j) else if has t.dummies j then .dummy else .empty)=_
 rw [if_neg (fun z=>hj ((zdu h.rise j).mp z)),if_pos (show has t.dummies j=true from (zdu h.riseD j).mpr hd)]
theorem zgU (h:DOk t n){j:Nat}(hj:j∉t.place.toList)(hd:j∉t.dummies.toList) : t.slot j=.empty:=by
 show (if t.place[below t.place j]? == some j then Slot.live (below t.place j) else if has t.dummies j then .dummy else .empty)=_
 rw [if_neg (fun z=>hj ((zdu h.rise j).mp z)),if_neg (show ¬ has t.dummies j=true from fun z=>hd ((zdu h.riseD j).mp z))]
theorem zds (h:DOk t n){i i' j:Nat}(a:t.place[i]?=some j)(b:t.place[i']?=some j) : i=i':=by
 have nd:t.place.toList.Nodup:=h.rise.imp fun q e=>by lia
 rw [<- Array.getElem?_toList] at a b
 exact (List.getElem?_inj (List.getElem?_eq_some_iff.mp a).1 nd).mp (a.trans b.symm)
theorem zk7 (h:DOk t n){i j:Nat}(a:t.place[i]?=some j) : t.slot j=.live i:=by
 obtain ⟨i',e,p⟩:=ze4 h (Array.mem_toList_iff.mpr (Array.mem_of_getElem? a))
 rw [e,zds h a p]
theorem ziR (h:DOk t n) : t.gaveWay=false:=by
 obtain ⟨u,hu,em,_⟩:=h.whole
 have:=zhS hu
 unfold SetTable.gaveWay at this ⊢
 rw [<- em];exact this
theorem zin (h:DOk t n) : 10*turns t.mask<100000:=by
 obtain ⟨u,hu,em,_⟩:=h.whole
 rw [<- em];exact zfS hu
theorem ziX (h:DOk t n)(x:Int) : ∃ N,N<10*turns t.mask/\(pth t.mask x N).j∉t.place.toList/\(pth t.mask x N).j∉t.dummies.toList/\∀ i,i<N->(pth t.mask x i).j∈t.place.toList\/(pth t.mask x i).j∈t.dummies.toList:=by
 obtain ⟨u,hu,em,mem⟩:=h.whole
 obtain ⟨N,a,b,c,d⟩:=zh3 hu x
 rw [em] at a b d
 exact ⟨N,a,fun z=>b ((mem _).mpr (.inl z)),fun z=>b ((mem _).mpr (.inr z)),fun i hi=>(mem _).mp (d i hi)⟩
def wd (p:Probe)(d:Option Nat) : Probe:={ p with dummy:=d }
theorem zhf (mask:Nat)(p:Probe)(d:Option Nat) : zcC mask (wd p d)=wd (zcC mask p) d:=by
 unfold zcC wd
 dsimp only
 by_cases c:p.more>0
 ·rw [if_pos c,if_pos c]
 ·rw [if_neg c,if_neg c]
def MetD (t:SetTable)(x:Int)(hashAt:Nat->Int)(N fuel m:Nat)(d:Option Nat) : Prop :=
  (∃ m' i d',m<=m'/\m' < N/\t.place[i]?=some (pth t.mask x m').j/\hashAt i=x/\probe.go t hashAt x fuel (wd (pth t.mask x m) d)=some (.candidate (pth t.mask x m').j i (wd (pth t.mask x (m'+1)) d'))/\∀ q i,m<=q->q<m'->t.place[i]?=some (pth t.mask x q).j->hashAt i≠x) \/
  (∃ d',probe.go t hashAt x fuel (wd (pth t.mask x m) d)=some (.empty (pth t.mask x N).j d')/\∀ q i,m<=q->q<N->t.place[i]?=some (pth t.mask x q).j->hashAt i≠x)
theorem zjg (h:DOk t n){x:Int}{hashAt:Nat->Int}{N:Nat}(hN:(pth t.mask x N).j∉t.place.toList)(hN2:(pth t.mask x N).j∉t.dummies.toList)(hl:∀ i,i<N->(pth t.mask x i).j∈t.place.toList\/(pth t.mask x i).j∈t.dummies.toList) : ∀ (fuel m:Nat) (d:Option Nat),m<=N->N<m+fuel ->
  MetD t x hashAt N fuel m d
 | 0,m,d,h1,h2=>by lia
 | fuel + 1, m, d, h1, h2 => by
  by_cases c:m=N
  ·subst c
   right
   refine ⟨d,?_,fun q i a b=>by lia⟩
   unfold probe.go
   show (match t.slot (pth t.mask x m).j with | .empty=>_ | .dummy=>_ | .live i=>_)=_
   rw [zgU h hN hN2]
   rfl
  ·have on:∀ (d':Option Nat),(probe.go t hashAt x (fuel+1) (wd (pth t.mask x m) d)=probe.go t hashAt x fuel (wd (pth t.mask x (m+1)) d'))->(∀ i',t.place[i']?=some (pth t.mask x m).j->hashAt i'≠x)->MetD t x hashAt N (fuel+1) m d:=fun d' eg ne=>by
    rcases zjg h (hashAt:=hashAt) hN hN2 hl fuel (m+1) d' (by lia) (by lia) with ⟨m',i',d2,a,b,c',d,e,f⟩ | ⟨d2,e,f⟩
    ·refine .inl ⟨m',i',d2,by lia,b,c',d,by rw [eg];exact e,fun q i'' a' b'=>?_⟩
     by_cases cq:q=m
     ·rw [cq];exact ne i''
     ·exact f q i'' (by lia) b'
    ·refine .inr ⟨d2,by rw [eg];exact e,fun q i'' a' b'=>?_⟩
     by_cases cq:q=m
     ·rw [cq];exact ne i''
     ·exact f q i'' (by lia) b'
   by_cases cp:(pth t.mask x m).j∈t.place.toList
   ·obtain ⟨i,es,ep⟩:=ze4 h cp
    by_cases ce:hashAt i=x
    ·left
     refine ⟨m,i,d,Nat.le_refl _,by lia,ep,ce,?_,fun q i a b=>by lia⟩
     unfold probe.go
     show (match t.slot (pth t.mask x m).j with | .empty=>_ | .dummy=>_ | .live i=>_)=_
     rw [es]
     show (if (hashAt i == x)=true then some (Met.candidate _ i (t.advance _)) else _)=_
     rw [if_pos (by rw [ce];simp),zcu,zhf]
     rfl
    ·refine on d ?_ fun i' e'=>by rw [zds h e' ep];exact ce
     conv=>lhs;unfold probe.go
     show (match t.slot (pth t.mask x m).j with | .empty=>_ | .dummy=>_ | .live i=>_)=_
     rw [es]
     show (if (hashAt i == x)=true then some (Met.candidate _ i (t.advance _)) else _)=_
     rw [if_neg (by simpa using ce),zcu,zhf]
     rfl
   ·have cd:=(hl m (by lia)).resolve_left cp
    refine on (some (pth t.mask x m).j) ?_ fun i' e'=>absurd (Array.mem_toList_iff.mpr (Array.mem_of_getElem? e')) cp
    conv=>lhs;unfold probe.go
    show (match t.slot (pth t.mask x m).j with | .empty=>_ | .dummy=>_ | .live i=>_)=_
    rw [zgV h cp cd]
    show probe.go t hashAt x fuel (t.advance (wd (pth t.mask x m) (some (pth t.mask x m).j)))=_
    rw [zcu,zhf]
    rfl
end
def RchD (t:SetTable)(hs:List Int) : Prop:=∀ (i j:Nat) (x:Int),t.place.toList[i]?=some j->hs[i]?=some x->∃ n,(pth t.mask x n).j=j/\∀ m,m<n->(pth t.mask x m).j∈t.place.toList\/(pth t.mask x m).j∈t.dummies.toList
structure DRaw (prog:Program) (w:World) (h:Heap) (a:Addr) (ps:List RP) (o:Obj) (es:Array (Int×Value)) (ep:Nat) (t:SetTable) : Prop where
 at':h.get? a=some o
 ex:o.ExactSet
 dat:o.data=.set es ep t
 prs:Paired (ElemR prog w h) es.toList ps
 nd:(ps.map (·.1)).Nodup
 ok:DOk t es.size
 rch:RchD t (es.toList.map (·.1))
 led:byTx w=false->t.led=true
section
variable {prog:Program}{w:World}{A:Around}{E:Value->Shared->Prop}{s:Shared}{a x:Addr}{ps:List RP}{k:List Int}{o:Obj}{es:Array (Int×Value)}{ep:Nat}{t:SetTable}
theorem RwRaw.d {h:Heap}(R:RwRaw prog w h a ps o es ep t) : DRaw prog w h a ps o es ep t:=⟨R.at',R.ex,R.dat,R.prs,R.nd,R.ok.d,fun i j x p q=>let ⟨n,g,m⟩:=R.rch i j x p q;⟨n,g,fun m' h=>.inl (m m' h)⟩,R.led⟩
theorem DRaw.keys {h:Heap}(R:DRaw prog w h a ps o es ep t) : Paired (zm2 prog w h) es.toList (ps.map (·.1)):=by
 have this:=R.prs
 clear R
 generalize es.toList=l at this
 induction this with
 | nil=>exact .nil
 | cons r _ ih=>exact .cons ⟨r.1,_,r.2.1,r.2.2⟩ ih
theorem DRaw.len {h:Heap}(R:DRaw prog w h a ps o es ep t) : es.size=ps.length:=by rw [<- Array.length_toList];exact zdv R.prs
theorem ziE {Q : SetFound → Shared → Prop}(R : DRaw prog w s.heap a ps o es ep t)(hu : A.units < cLine)(hx : IsRow prog w s.heap k x)
  (h1:∀ i,(ps.map (·.1))[i]?=some k->Q (.there (some i)) s)
  (h2:k∉ps.map (·.1)->∀ j b,Q (.free j b) s) :
  wpAny (model prog w) A (setSearch a (.ref x) (zav prog w k) false) Q E s:=by
 have prs:=R.keys
 have hlk:(ps.map (·.1)).length=ps.length:=List.length_map ..
 have hlen:=R.len
 generalize ps.map (·.1)=ks at prs h1 h2 hlk
 obtain ⟨N,n1,n2,n3,n4⟩:=ziX R.ok (zav prog w k)
 have ft:=zin R.ok
 have go : ∀ (fuel m : Nat) (stand : Option Probe) (dd : Option Nat), stand.getD (t.probeStart (zav prog w k)) = wd (pth t.mask (zav prog w k) m) dd → m ≤ N → N < m + fuel → (∀ q i : Nat, q < m → t.place[i]? = some (pth t.mask (zav prog w k) q).j → ks[i]? ≠ some k) →
   wpAny (model prog w) A (setSearchFrom a (.ref x) (zav prog w k) false fuel stand) Q E s:=by
  intro fuel
  induction fuel with
  | zero=>intro m stand dd _ h1 h2;lia
  | succ fuel ih =>
   intro m stand dd est hm hf vis
   unfold setSearchFrom
   refine wpAny_bind (wpAny_setState_of R.at' R.dat R.ok.fits ?_)
   dsimp only
   refine zao (by rw [ziR R.ok];simp) ?_
   rw [est]
   have noh:∀ q i:Nat,t.place[i]?=some (pth t.mask (zav prog w k) q).j->((es[i]?.map (·.1)).getD 0)≠zav prog w k->ks[i]?≠some k:=by
    intro q i hp hh hk
    obtain ⟨e,he,hr,_⟩:=zgI prs hk
    rw [Array.getElem?_toList] at he
    rw [he] at hh
    exact hh hr
   unfold probe
   rcases zjg R.ok (hashAt:=fun i=>(es[i]?.map (·.1)).getD 0) n2 n3 n4 (10*turns t.mask) m dd hm (by lia) with ⟨m',i,d',a1,a2,a3,a4,a5,a6⟩ | ⟨d',a5,a6⟩
   ·show wpAny _ _ (match probe.go t (fun i=>(es[i]?.map (·.1)).getD 0) (zav prog w k) (10*turns t.mask) (wd (pth t.mask (zav prog w k) m) dd) with | some met=>_ | x=>_) Q E s
    rw [a5]
    dsimp only
    have il:i<es.size:=by
     have:=(Array.getElem?_eq_some_iff.mp a3).1
     rw [R.ok.sz] at this
     exact this
    obtain ⟨⟨hy,y⟩,ey⟩ : ∃ e,es[i]?=some e:=⟨es[i],by simp [il]⟩
    obtain ⟨k',ek,er1,b,er2,er3⟩:=zkP prs (i:=i) (x:=(hy,y)) (by rw [Array.getElem?_toList];exact ey)
    have er2:y=.ref b:=er2
    subst er2
    have seen:∀ y∈((es.filter (·.1 == zav prog w k)).toList.map (·.2)),∃ k' b,y=.ref b/\IsRow prog w s.heap k' b:=by
     intro y hy
     obtain ⟨e,he,rfl⟩:=List.mem_map.mp hy
     have he:e∈es.toList:=by
      rw [Array.toList_filter] at he
      exact (List.mem_filter.mp he).1
     obtain ⟨k2,_,_,b2,h3,h4⟩:=zd0 prs he
     exact ⟨k2,b2,h3,h4⟩
    have sl:t.slot (pth t.mask (zav prog w k) m').j=.live i:=zk7 R.ok a3
    refine zbO (fun hl=>wpAny_bind (zhK hx seen (zao (by simp) ?_))) (fun hl=>?_)
    all_goals
     rw [ey]
     dsimp only
     refine wpAny_bind (wpAny_holding (wpAny_eqBool_tuple hu er3 hx ?_))
     refine wpAny_bind (wpAny_setState_of R.at' R.dat R.ok.fits ?_)
     dsimp only
     refine zao (by simp) ?_
     have sm:t.sameMemory t.moves t.mask=some true:=by unfold SetTable.sameMemory;rw [if_pos (by simp)]
     rw [sm]
     dsimp only
     rw [if_pos rfl,sl]
     dsimp only
     rw [ey]
     dsimp only
     refine wpAny_bind (wpAny_isSame_ref_self (wpAny_bind (wpAny_pure ?_)))
     rw [if_pos rfl]
     dsimp only
     refine zbO (fun c2=>wpAny_pure (h1 i (by rw [ek,of_decide_eq_true c2]))) (fun c2=>?_)
     refine ih (m'+1) _ d' rfl (by lia) (by lia) fun q i2 hq hp=>?_
     by_cases cq:q<m
     ·exact vis q i2 cq hp
     by_cases cm:q=m'
     ·rw [cm] at hp
      rw [zds R.ok hp a3,ek]
      exact fun z=>c2 (decide_eq_true (Option.some.inj z))
     ·exact noh q i2 hp (a6 q i2 (by lia) (by lia) hp)
   ·show wpAny _ _ (match probe.go t (fun i=>(es[i]?.map (·.1)).getD 0) (zav prog w k) (10*turns t.mask) (wd (pth t.mask (zav prog w k) m) dd) with | some met=>_ | x=>_) Q E s
    rw [a5]
    dsimp only
    have hout:k∉ks:=by
     intro hin
     obtain ⟨i,hi,hk⟩:=List.mem_iff_getElem.mp hin
     have ek:ks[i]?=some k:=by rw [List.getElem?_eq_some_iff];exact ⟨hi,hk⟩
     obtain ⟨e,he,hr,_⟩:=zgI prs ek
     have pl:i<t.place.size:=by rw [R.ok.sz,hlen,<- hlk];exact hi
     obtain ⟨n,g1,g2⟩:=R.rch i t.place[i] (zav prog w k) (by simp [pl]) (by rw [List.getElem?_map,he];show some e.1=_;rw [hr])
     have hn:n<N:=by
      rcases Nat.lt_or_ge n N with q | q
      ·exact q
      ·exfalso
       rcases Nat.eq_or_lt_of_le q with q | q
       ·rw [q,g1] at n2
        exact n2 (by simp)
       ·exact (g2 N q).elim n2 n3
     have pi:t.place[i]?=some (pth t.mask (zav prog w k) n).j:=by rw [g1];simp [pl]
     by_cases c:n<m
     ·exact vis n i c pi ek
     ·exact noh n i pi (a6 n i (by lia) hn pi) ek
    cases d' with
    | none=>exact wpAny_pure (h2 hout _ _)
    | some d=>exact zao (by simp) (wpAny_pure (h2 hout _ _))
 unfold setSearch
 exact go 100000 0 none none rfl (Nat.zero_le _) (by lia) (fun q i h=>by lia)
end
theorem zau {α:Type}(xs:Array α)(p:Nat) : (eraseAt xs p).toList=xs.toList.eraseIdx p:=by
 unfold eraseAt
 rw [List.eraseIdx_eq_take_drop_succ]
 simp
 exact List.take_of_length_le (by simp)
theorem zit {α β:Type}{R:α->β->Prop}{xs:List α}{ys:List β}(h:Paired R xs ys) : ∀ i,Paired R (xs.eraseIdx i) (ys.eraseIdx i):=by
 induction h with
 | nil=>intro i;exact .nil
 | cons r t ih =>
  intro i
  cases i with
  | zero=>exact t
  | succ i=>exact .cons r (ih i)
theorem zgr {α β:Type}(f:α->β) : ∀ (l:List α) (i:Nat),(l.eraseIdx i).map f=(l.map f).eraseIdx i
 | [],_=>rfl
 | _::_,0=>rfl
 | x::l,i+1=>congrArg (f x::·) (zgr f l i)
theorem mem_erase {α:Type}{l:List α}{i:Nat}{x:α}(h:l[i]?=some x) : l.Perm (x::l.eraseIdx i):=by
 induction l generalizing i with
 | nil=>simp at h
 | cons y l ih =>
  cases i with
  | zero =>
   have:=Option.some.inj h
   subst this
   exact .refl _
  | succ i =>
   exact ((ih h).cons y).trans (.swap _ _ _)
theorem drop_eq {t:SetTable}{i j:Nat}(h:t.place[i]?=some j) : t.drop i={ t with place:=eraseAt t.place i,dummies:=insertAt t.dummies (below t.dummies j) j }:=by
 unfold SetTable.drop
 rw [h]
theorem zi5 {t:SetTable}{n i j:Nat}(ok:DOk t n)(h:t.place[i]?=some j) : DOk (t.drop i) (n-1)/\n=n-1+1/\∀ x,(x∈t.place.toList\/x∈t.dummies.toList)↔(x∈(t.drop i).place.toList\/x∈(t.drop i).dummies.toList):=by
 have hp:t.place.toList.Perm (j::t.place.toList.eraseIdx i):=mem_erase (by rw [Array.getElem?_toList];exact h)
 have hjp:j∈t.place.toList:=hp.mem_iff.mpr List.mem_cons_self
 have hjd:j∉t.dummies.toList:=fun z=>ok.dis j z hjp
 have hd:=PySem.SetTable.insertAt_perm t.dummies (below t.dummies j) j
 have hd2:∀ x,x∈(insertAt t.dummies (below t.dummies j) j).toList↔x=j\/x∈t.dummies.toList:=fun x=>by
  rw [toList_insertAt,List.mem_append,List.mem_cons]
  constructor
  ·rintro (z | z | z)
   ·exact .inr (List.mem_of_mem_take z)
   ·exact .inl z
   ·exact .inr (List.mem_of_mem_drop z)
  ·rintro (z | z)
   ·exact .inr (.inl z)
   ·rw [<- List.take_append_drop (below t.dummies j) t.dummies.toList,List.mem_append] at z
    rcases z with z | z
    ·exact .inl z
    ·exact .inr (.inr z)
 have sd:(insertAt t.dummies (below t.dummies j) j).size=t.dummies.size+1:=by
  have:=hd.length_eq
  rw [Array.length_toList,Array.length_toList,Array.size_push] at this
  exact this
 have sp:(eraseAt t.place i).size=n-1/\n=n-1+1:=by
  have:=hp.length_eq
  rw [List.length_cons,Array.length_toList,ok.sz] at this
  rw [<- Array.length_toList,zau]
  lia
 have nd:t.place.toList.Nodup:=ok.rise.imp fun q e=>by lia
 have nj:j∉t.place.toList.eraseIdx i:=(List.nodup_cons.mp (hp.nodup_iff.mp nd)).1
 have un:∀ x,(x∈t.place.toList\/x∈t.dummies.toList)↔(x∈t.place.toList.eraseIdx i\/x∈(insertAt t.dummies (below t.dummies j) j).toList):=fun x=>by
  rw [hd2,hp.mem_iff,List.mem_cons]
  constructor
  ·rintro ((z | z) | z)
   ·exact .inr (.inl z)
   ·exact .inl z
   ·exact .inr (.inr z)
  ·rintro (z | z | z)
   ·exact .inl (.inr z)
   ·exact .inl (.inl z)
   ·exact .inr z
 rw [drop_eq h]
 refine ⟨⟨sp.1,?_,zeB ok.riseD hjd,fun x hx=>?_,ok.plain,?_⟩,sp.2,fun x=>?_⟩
 ·show Rise (eraseAt t.place i).toList
  rw [zau]
  exact ok.rise.sublist (List.eraseIdx_sublist _ _)
 ·show x∉(eraseAt t.place i).toList
  rw [zau]
  rcases (hd2 x).mp hx with z | z
  ·rw [z];exact nj
  ·exact fun y=>ok.dis x z (List.mem_of_mem_eraseIdx y)
 ·obtain ⟨u,hu,em,mem⟩:=ok.whole
  refine ⟨u,?_,em,fun x=>?_⟩
  ·show TOk u (n-1+(insertAt t.dummies (below t.dummies j) j).size)
   rw [sd,show n-1+(t.dummies.size+1)=n+t.dummies.size by lia]
   exact hu
  ·show _↔(x∈(eraseAt t.place i).toList\/_)
   rw [zau,mem x,un x]
 ·show _↔(x∈(eraseAt t.place i).toList\/_)
  rw [zau,un x]
theorem zkl {t:SetTable}{hs:List Int}{n i j:Nat}(ok:DOk t n)(h:t.place[i]?=some j)(R:RchD t hs) : RchD (t.drop i) (hs.eraseIdx i):=by
 have un:=(zi5 ok h).2.2
 have em:(t.drop i).mask=t.mask:=by rw [drop_eq h]
 intro i' j' x hp hx
 rw [em]
 have hp':t.place.toList[if i' < i then i' else i'+1]?=some j':=by
  rw [drop_eq h] at hp
  have hp:(eraseAt t.place i).toList[i']?=some j':=hp
  rw [zau,List.getElem?_eraseIdx] at hp
  split at hp
  ·rename_i c;rw [if_pos c];exact hp
  ·rename_i c;rw [if_neg c];exact hp
 have hx':hs[if i' < i then i' else i'+1]?=some x:=by
  rw [List.getElem?_eraseIdx] at hx
  split at hx
  ·rename_i c;rw [if_pos c];exact hx
  ·rename_i c;rw [if_neg c];exact hx
 obtain ⟨n',g1,g2⟩:=R _ _ _ hp' hx'
 exact ⟨n',g1,fun m hm=>(un _).mp (g2 m hm)⟩
section
variable {prog:Program}{w:World}{A:Around}{E:Value->Shared->Prop}{s:Shared}{a x:Addr}{ps:List RP}{k:List Int}{o:Obj}{es:Array (Int×Value)}{ep:Nat}{t:SetTable}
structure DSet (prog:Program) (w:World) (h:Heap) (a:Addr) (ps:List RP) : Prop where
 ex:∃ o es ep t,DRaw prog w h a ps o es ep t
theorem ziB {Q:Bool->Shared->Prop}(hS:DSet prog w s.heap a ps)(hu:A.units<cLine)(hx:IsRow prog w s.heap k x)(hb:ps.length<128)
  (h:∀ h' ps' b,Heap.SameBut a s.heap h'->DSet prog w h' a ps'->(∀ y,y∈ps'.map (·.1)↔y∈ps.map (·.1)/\y≠k)->(∀ p∈ps',p∈ps)->ps'.length<=ps.length->Q b { s with heap:=h' }) :
  wpAny (model prog w) A (setDiscardHashed a (.ref x) (zav prog w k)) Q E s:=by
 obtain ⟨o,es,ep,t,R⟩:=hS.ex
 have hlen:=R.len
 unfold setDiscardHashed setFind setFindIn
 refine wpAny_bind (wpAny_bind (wpAny_setState_of R.at' R.dat R.ok.fits ?_))
 dsimp only
 refine zao (by show ¬ ((false&&_&&_)=true);simp) ?_
 refine wpAny_bind (ziE R hu hx (fun i hi=>wpAny_pure ?_) (fun hout j b=>wpAny_pure (wpAny_pure ?_)))
 ·dsimp only
  refine wpAny_bind (wpAny_setState_of R.at' R.dat R.ok.fits ?_)
  dsimp only
  obtain ⟨p,hp,ek⟩ : ∃ p,ps[i]?=some p/\p.1=k:=by
   rw [List.getElem?_map] at hi
   cases q:ps[i]? with
   | none=>rw [q] at hi;cases hi
   | some p=>rw [q] at hi;exact ⟨p,rfl,Option.some.inj hi⟩
  have il:i<es.size:=by rw [hlen];exact (List.getElem?_eq_some_iff.mp hp).1
  have pl:t.place[i]?=some (t.place[i]'(by rw [R.ok.sz];exact il)):=by
   have:i<t.place.size:=by rw [R.ok.sz];exact il
   simp [this]
  generalize (t.place[i]'(by rw [R.ok.sz];exact il))=j at pl
  obtain ⟨d1,d2,d3⟩:=zi5 R.ok pl
  have pe:=mem_erase hp
  have pek:=pe.map (·.1)
  rw [List.map_cons,ek] at pek
  have nd':=pek.nodup_iff.mp R.nd
  have sz:(eraseAt es i).size=es.size-1:=by
   rw [<- Array.length_toList,zau,List.length_eraseIdx_of_lt (by rw [Array.length_toList];exact il),Array.length_toList]
  have hz:(eraseAt es i).size<=sizeLine:=by rw [sz,hlen];exact Nat.le_trans (Nat.sub_le _ _) (Nat.le_trans (Nat.le_of_lt hb) (by decide))
  refine wpAny_bind (wpAny_storeSet_of R.at' R.dat ?_ hz)
  have sb:=Heap.SameBut.update s.heap a (Obj.putSet (eraseAt es i) (t.drop i))
  have hg:(s.heap.update a (Obj.putSet (eraseAt es i) (t.drop i))).get? a=some { o with data:=.set (eraseAt es i) (ep+1) (t.drop i) }:=by
   have e:=Heap.get?_update_self (Obj.putSet (eraseAt es i) (t.drop i)) R.at' (by rw [putSet_of _ _ R.dat];rfl)
   rwa [putSet_of _ _ R.dat] at e
  refine wpAny_bind (wpAny_point (wpAny_pure (h _ (ps.eraseIdx i) true sb ⟨_,eraseAt es i,ep+1,t.drop i,hg,R.ex,rfl,?_,?_,?_,?_,fun z=>?_⟩ (fun y=>?_) (fun q hq=>List.mem_of_mem_eraseIdx hq) ?_)))
  ·rw [zau]
   exact ElemR.keeps (zit R.prs i) R.at' R.ex sb
  ·exact (List.nodup_cons.mp nd').2
  ·rw [sz];exact d1
  ·rw [zau,zgr]
   exact zkl R.ok pl R.rch
  ·rw [drop_eq pl];exact R.led z
  ·rw [pek.mem_iff,List.mem_cons]
   constructor
   ·intro z
    exact ⟨.inr z,fun e=>(List.nodup_cons.mp nd').1 (e ▸ z)⟩
   ·rintro ⟨z | z,y⟩
    ·exact absurd z y
    ·exact z
  ·have:=pe.length_eq
   rw [List.length_cons] at this
   lia
 ·have:=h s.heap ps false (Heap.SameBut.refl a s.heap) hS (fun y=>⟨fun z=>⟨z,fun e=>hout (e ▸ z)⟩,fun z=>z.1⟩) (fun _ z=>z) (Nat.le_refl _)
  cases s
  exact this
end
structure WRaw (prog:Program) (w:World) (h:Heap) (a:Addr) (ps:List RP) (o:Obj) (es:Array (Int×Value)) (ep:Nat) (t:SetTable) : Prop where
 at':h.get? a=some o
 ex:o.ExactSet
 dat:o.data=.set es ep t
 prs:Paired (ElemR prog w h) es.toList ps
 nd:(ps.map (·.1)).Nodup
 ok:WOk t es.size
 led:byTx w=false->t.led=true
structure WSet (prog:Program) (w:World) (h:Heap) (a:Addr) (ps:List RP) : Prop where
 ex:∃ o es ep t,WRaw prog w h a ps o es ep t
section
variable {prog:Program}{w:World}{A:Around}{E:Value->Shared->Prop}{s:Shared}
theorem RwSet.wk {h:Heap}{a:Addr}{ps:List RP}(x:RwSet prog w h a ps) : WSet prog w h a ps:=let ⟨o,es,ep,t,R⟩:=x.ex;⟨o,es,ep,t,R.at',R.ex,R.dat,R.prs,R.nd,R.ok.w,R.led⟩
theorem RwSet.d {h:Heap}{a:Addr}{ps:List RP}(x:RwSet prog w h a ps) : DSet prog w h a ps:=let ⟨o,es,ep,t,R⟩:=x.ex;⟨o,es,ep,t,R.d⟩
theorem DSet.wk {h:Heap}{a:Addr}{ps:List RP}(x:DSet prog w h a ps) : WSet prog w h a ps:=let ⟨o,es,ep,t,R⟩:=x.ex;⟨o,es,ep,t,R.at',R.ex,R.dat,R.prs,R.nd,R.ok.w,R.led⟩
theorem zlM {a:Addr}{ps:List RP}{Q:Unit->Shared->Prop}(hS:DSet prog w s.heap a ps)(hb:ps.length<127)
  (h:∀ h' ps',Heap.SameBut a s.heap h'->WSet prog w h' a ps'->ps'.Perm ps->Q () { s with heap:=h' }) : wpAny (model prog w) A (setTidy a) Q E s:=by
 obtain ⟨o,es,ep,t,R⟩:=hS.ex
 have hlen:=R.len
 unfold setTidy
 refine wpAny_bind (wpAny_setState_of R.at' R.dat R.ok.fits ?_)
 dsimp only
 refine zbO (fun c=>?_) (fun c=>wpAny_pure ?_)
 ·have eg:SetTable.grown es.size=es.size*4:=by unfold SetTable.grown;rw [if_neg (by lia)]
  exact zhr R.at' R.ex R.dat R.ok.fits R.ok.plain R.prs R.nd R.led (by rw [eg];lia) (by rw [eg];lia) fun h' ps' sb hS' pm=>h h' ps' sb hS'.wk pm
 ·have:=h s.heap ps (Heap.SameBut.refl a s.heap) hS.wk (.refl _)
  cases s
  exact this
theorem zkL {a b:Addr}{id:String}{ns ms:List RP}{Q:Value->Shared->Prop}(ha:RwSet prog w s.heap a ns)(hb:RwSet prog w s.heap b ms)(hu:A.units<cLine)(hl:ns.length+ms.length<127)(hs:ns.length / 4>ms.length)
  (h:∀ h' ks,(∀ b o,s.heap.get? b=some o->h'.get? b=some o)->WSet prog w h' s.heap.objs.size ks->(∀ x,x∈ks.map (·.1)↔x∈ns.map (·.1)/\x∉ms.map (·.1))->(∀ p∈ks,p∈ns)->Q (.ref s.heap.objs.size) { s with heap:=h' }) :
  wpAny (model prog w) A (do
   let r <- Builtin.Frozenset.copyOf a
   let c <- Builtin.Frozenset.addrOf r
   holding [r] (Builtin.Frozenset.differenceUpdate id c (.ref b))
   return r) Q E s:=by
 refine wpAny_bind (zjW ha hu (by lia) fun h1 ks1 k1 hS1 m1 f1 l1=>wpAny_bind (wpAny_pure ?_))
 obtain ⟨ob,eb,pb,tb,Rb⟩:=hb.ex
 obtain ⟨or,er,pr,tr,Rr⟩:=hS1.ex
 have hbl:b<s.heap.objs.size:=Heap.lt_size Rb.at'
 have Rb1:=Rb.keeps k1
 have l2:ns.length<=ks1.length:=by
  have:=zg8 (rw_nd ha) (r:=ks1.map (·.1)) fun y hy=>(m1 y).mpr hy
  simpa using this
 refine wpAny_bind (wpAny_holding ?_)
 unfold Builtin.Frozenset.differenceUpdate
 refine zao (by simp;exact Nat.ne_of_lt hbl) ?_
 refine wpAny_bind (zbq (s:={ s with heap:=h1 }) (v:=.ref b) (zaA Rb1.rset) (zbi rfl ?_))
 refine wpAny_bind (wpAny_pure ?_)
 refine wpAny_bind (zbB (s:={ s with heap:=h1 }) Rb1 ?_)
 refine wpAny_bind (zbB (s:={ s with heap:=h1 }) Rr ?_)
 refine zao (by lia) ?_
 refine wpAny_bind (wpAny_setEpoch_of (s:={ s with heap:=h1 }) Rb1.at' Rb1.dat Rb1.ok.fits ?_)
 refine wpAny_bind (wpAny_holding ?_)
 refine wpAny_bind (zb5 (s:={ s with heap:=h1 }) Rb1.g _ _ fun es' pe=>?_)
 obtain ⟨ms',pn,pp⟩:=zfs pe Rb1.prs
 refine wpAny_bind (PySem.MeetsSeq2.wpAny_forIn_array _ (fun rest _ s'=>∃ h' ks rs,s'={ s with heap:=h' }/\Heap.SameBut s.heap.objs.size h1 h'/\DSet prog w h' s.heap.objs.size ks/\Paired (ElemR prog w h1) rest rs/\(∀ x,(x∈ks.map (·.1)/\x∉rs.map (·.1))↔(x∈ns.map (·.1)/\x∉ms.map (·.1)))/\(∀ p∈ks,p∈ns)/\ks.length<=ns.length) _ ?_ ?_ es' PUnit.unit
  ⟨h1,ks1,ms',rfl,Heap.SameBut.refl _ h1,hS1.d,pp,(fun x=>by rw [m1,(pn.map (·.1)).mem_iff]),f1,l1⟩)
 ·rintro x rest b' s' ⟨h',ks,rs,rfl,sb,hS,prr,mem,fr,len⟩
  cases prr with
  | cons rx rt =>
   rename_i n rs'
   obtain ⟨k1',k2,k3⟩:=rx
   dsimp only
   rw [k1',k2]
   refine wpAny_bind (wpAny_holding (ziB (s:={ s with heap:=h' }) hS hu (zdt sb Rr.at' Rr.ex.1 k3) (by lia) fun h2 ks2 bb sb2 hS2 mem2 fr2 len2=>?_))
   have ab:h2.get? b=some ob:=(sb2.2 b (Nat.ne_of_lt hbl)).trans ((sb.2 b (Nat.ne_of_lt hbl)).trans Rb1.at')
   unfold Builtin.Frozenset.unchanged
   refine wpAny_bind (wpAny_bind (wpAny_setEpoch_of (s:={ s with heap:=h2 }) ab Rb.dat Rb.ok.fits (zao (by simp) (wpAny_pure (wpAny_pure ?_)))))
   refine ⟨h2,ks2,rs',rfl,sb.trans sb2,hS2,rt,fun y=>?_,fun p hp=>fr p (fr2 p hp),by lia⟩
   rw [<- mem y,mem2 y,List.map_cons,List.mem_cons]
   constructor
   ·rintro ⟨⟨z1,z2⟩,z3⟩
    exact ⟨z1,fun z=>z.elim z2 z3⟩
   ·rintro ⟨z1,z2⟩
    exact ⟨⟨z1,fun z=>z2 (.inl z)⟩,fun z=>z2 (.inr z)⟩
 ·rintro b' s' ⟨h',ks,rs,rfl,sb,hS,prr,mem,fr,len⟩
  cases prr
  refine wpAny_pure ?_
  refine zlM (s:={ s with heap:=h' }) hS (by lia) fun h2 ks2 sb2 hS2 pm=>wpAny_pure ?_
  refine h h2 ks2 (fun c o e=>(sb2.2 c (Nat.ne_of_lt (Heap.lt_size e))).trans ((sb.2 c (Nat.ne_of_lt (Heap.lt_size e))).trans (k1 c o e))) hS2 (fun x=>?_) fun p hp=>fr p (pm.mem_iff.mp hp)
  rw [(pm.map (·.1)).mem_iff,<- mem x]
  simp
theorem znz {a b:Addr}{ns ms:List RP}{Q:Value->Shared->Prop}(ha:RwSet prog w s.heap a ns)(hb:RwSet prog w s.heap b ms)(hu:A.units+1<cLine)(hl:ns.length+ms.length<127)
  (h:∀ h' ks,(∀ b o,s.heap.get? b=some o->h'.get? b=some o)->WSet prog w h' s.heap.objs.size ks->(∀ x,x∈ks.map (·.1)↔x∈ns.map (·.1)/\x∉ms.map (·.1))->(∀ p∈ks,p∈ns)->Q (.ref s.heap.objs.size) { s with heap:=h' }) :
  wpAny (model prog w) A (binaryOp .Sub (.ref a) (.ref b)) Q E s:=by
 refine wpAny_binaryOp_same (T := "set") (id := "set.__sub__") (zaA ha) (zaA hb) F.fills_set_sub F.slot_set_sub (wpAny_call_entry F.slot_set_sub (zaA ha) zeJ ?_ (F.args_set_sub_2 _ _))
 unfold Builtin.«frozenset.__sub__»
 show wpAny _ _ (Builtin.Frozenset.slot1 "__sub__" ⟨[.ref a,.ref b],[]⟩ >>= _) _ _ _
 unfold Builtin.Frozenset.slot1
 refine wpAny_bind (wpAny_bind (wpAny_pure (wpAny_pure ?_)))
 dsimp only
 refine wpAny_bind (wpAny_bind (zbq (zaA ha) (zbq (v:=.ref b) (zaA hb) ?_)))
 refine zao (by decide) ?_
 refine wpAny_bind (wpAny_pure (wpAny_bind (zl4 ha hb (by first | exact hu | (show A.units+1<cLine;lia) | (simp;lia)) hl (fun c=>zkL ha hb (by first | exact hu | (show A.units+1<cLine;lia) | (simp;lia)) hl c fun h1 ks1 k1 hS1 m1 f1=>?_) fun h1 ks1 k1 hS1 m1 f1=>?_)))
 ·exact wpAny_pure ⟨_,rfl,fun z=>(nomatch z),h h1 ks1 k1 hS1 m1 f1⟩
 ·exact wpAny_pure ⟨_,rfl,fun z=>(nomatch z),h h1 ks1 k1 hS1.wk m1 f1⟩
end
end Wr
namespace L2
open PySem PySem.Spec PyProof.Rows Wr
def WP (P:Program)(w:World)(h:Heap)(a:Addr)(ps:List RP) : Prop:=∃ o es ep t,h.get? a=some o/\o.ExactSet/\o.data=.set es ep t/\Paired (fun (e:Int×Value) (p:RP)=>e.1=zav P w p.1/\e.2=.ref p.2) es.toList ps/\(ps.map (·.1)).Nodup/\WOk t es.size/\(byTx w=false->t.led=true)
def zgm (P:Program)(w:World)(a:Addr)(ps:List RP) : HO:=.ext fun h=>WP P w h a ps
theorem zfv {P:Program}{w:World}{H:Hp}{h:Heap}{a:Addr}{ps:List RP}(x:WP P w h a ps) : ObjOk P w H h a (zgm P w a ps):=by
 obtain ⟨o,es,ep,t,h1,r⟩:=id x
 exact ⟨x,⟨o,h1⟩,fun h1 h2 ⟨o,es,ep,t,y,r⟩ k=>⟨o,es,ep,t,k _ y,r⟩⟩
theorem w_p {P:Program}{w:World}{h:Heap}{a:Addr}{ps:List RP}(x:WSet P w h a ps) : WP P w h a ps:=by
 obtain ⟨o,es,ep,t,R⟩:=x.ex
 exact ⟨o,es,ep,t,R.at',R.ex,R.dat,za3 R.prs fun _ _ ⟨a,b,_⟩=>⟨a,b⟩,R.nd,R.ok,R.led⟩
theorem w_nd {P:Program}{w:World}{h:Heap}{a:Addr}{ps:List RP}(x:WSet P w h a ps) : (ps.map (·.1)).Nodup:=let ⟨_,_,_,_,R⟩:=x.ex;R.nd
theorem p_w {P:Program}{w:World}{h:Heap}{a:Addr}{ps:List RP}(x:WP P w h a ps)(r:∀ p∈ps,IsRow P w h p.1 p.2) : WSet P w h a ps:=by
 obtain ⟨o,es,ep,t,h1,h2,h3,h4,h5,h6,h7⟩:=x
 exact ⟨o,es,ep,t,h1,h2,h3,zhQ h4 fun e p hp q=>⟨q.1,q.2,r p hp⟩,h5,h6,h7⟩
section
variable {X:Cx}{pins:List (Addr×Obj)}{σ:St}{H:Hp}{s:Shared}
theorem Inv.wset {a:Addr}{ps:List RP}(I:Inv X pins σ H s)(h:H a=some (zgm X.prog X.w a ps))(r:zfm H ps) : WSet X.prog X.w s.heap a ps:=p_w (I.hok a _ h).1 fun p hp=>zhM I (r p hp)
def zfM (P:Program)(w:World) : List V->Hp->VK->Prop:=fun xs H Q=>∃ (a:Addr) (ps:List RP),xs=[.ref a]/\(H a=some (zcm P w a ps)\/H a=some (zgm P w a ps))/\zfm H ps/\(∀ p∈ps,p.1≠[])/\ps.length<=1000 /\
 ∀ (D:Addr) (ys':List V) (ks':List (List Int)),H D=none->Paired (RowAt H) ys' ks'->ks'.Perm (ps.map (·.1))->(ks'.Pairwise fun a b=>lexI b a=false)->Q (.ref D) (upd H D (.lst ys'))
theorem zeI (hc:X.calm=true) : zb4 X (.builtin "sorted") (zfM X.prog X.w):=by
 intro pins s σ H xs us Q I r ⟨a,ps,e,ha,rp,ne,hM,q⟩
 subst e
 obtain ⟨u,rfl,ru⟩:=Vals.one r
 cases ru
 have hW:WSet X.prog X.w s.heap a ps:=ha.elim (fun z=>(I.rset z rp).wk) (fun z=>I.wset z rp)
 obtain ⟨o,es,ep,t,R⟩:=hW.ex
 have hlen:es.size=ps.length:=by rw [<- Array.length_toList];exact zdv R.prs
 refine Calls.call_function_entry kind_sorted plain_sorted entry_sorted (args_sorted1 _) ?_
 unfold Builtin.«sorted»
 refine wpAny_bind (m:=checkCount "sorted" 1 1 _) (wpAny_pure (wpAny_bind ?_))
 have hz:es.size<=sizeLine:=by rw [hlen];exact Nat.le_trans hM (by decide)
 refine ziK (A:=X.A.in1) (T := "set") (n:=es.size) (P:=fun i v=>((walked X.w a es ep)[i]?).map (·.2)=some v) (St:=fun it i h=>GSt X.w h it a o es ep t i) (Heap.lt_size R.at') (fun h' k=>⟨o,k _ _ R.at',R.ex.1⟩) (by decide) (by decide)
  (fun h' Q' k hge hq=>?_) (fun h' Q' k hq=>zkx ⟨o,k _ _ R.at',R.ex.1⟩ hq) (fun it hne=>ziC (by simpa using zgM I hc) it a hne o es ep t) hz fun h1 tk acc k1 hsz htk items=>?_
 ·refine ziZ (s:={ s with heap:=h' }) ⟨k _ _ R.at',R.ex,R.dat,R.ok,R.led⟩ fun oi st=>?_
  exact hq h'.objs.size _ (Nat.le_refl _) (fun b o e=>Heap.get?_push_of_some _ e) st
 obtain ⟨ps',pn,pp⟩:=zfs (zbL X.w a es ep) R.prs
 have wl:(walked X.w a es ep).size=es.size:=by
  have y:=(zbL X.w a es ep).length_eq
  rwa [Array.length_toList,Array.length_toList] at y
 have eacc:acc.toList=(walked X.w a es ep).toList.map (·.2):=by
  apply List.ext_getElem
  ·rw [Array.length_toList,List.length_map,Array.length_toList,items.1,wl]
  ·intro i hi hi2
   rw [Array.length_toList] at hi
   have z:=items.2 i acc[i] (by simp [hi])
   rw [List.length_map,Array.length_toList] at hi2
   rw [Array.getElem?_eq_getElem hi2] at z
   simp at z ⊢
   exact z.symm
 have eps:acc.toList=ps'.map fun p=>Value.ref p.2:=by
  rw [eacc]
  have go:∀ {l:List (Int×Value)} {m:List RP},Paired (ElemR X.prog X.w s.heap) l m->l.map (·.2)=m.map fun p=>Value.ref p.2:=by
   intro l m p
   induction p with
   | nil=>rfl
   | cons r _ ih=>rw [List.map_cons,List.map_cons,ih,r.2.1]
  exact go pp
 have rp':zfm H ps':=fun p hp=>rp p (pn.mem_iff.mp hp)
 have ne':∀ p∈ps',p.1≠[]:=fun p hp=>ne p (pn.mem_iff.mp hp)
 have rv:Vals (ps'.map fun p=>V.ref p.2) acc.toList:=by
  rw [eps]
  clear eps pp pn rp' ne'
  induction ps' with
  | nil=>exact .nil
  | cons p l ih=>exact .cons rfl ih
 have pr:Paired (RowAt H) (ps'.map fun p=>V.ref p.2) (ps'.map (·.1)):=by
  clear eps pp pn rv ne'
  induction ps' with
  | nil=>exact .nil
  | cons p l ih=>exact .cons ⟨p.2,rfl,rp' p List.mem_cons_self⟩ (ih fun x hx=>rp' x (List.mem_cons_of_mem _ hx))
 have K0:=zec I rv pr fun k hk=>by obtain ⟨p,hp,rfl⟩:=List.mem_map.mp hk;exact ne' p hp
 rw [<- zeu pr] at K0
 have lacc:acc.toList.length<=1000:=by rw [eps,List.length_map,pn.length_eq];exact hM
 refine wpAny_bind (wpAny_newList ?_ (by rw [Array.length_toList,items.1];exact hz))
 have hoL:(h1.push (seqObj "list" acc.toList.toArray 0)).get? h1.objs.size=some (seqObj "list" acc.toList.toArray 0):=Heap.get?_push_size _ rfl
 have K3:KeysAt (h1.push (seqObj "list" acc.toList.toArray 0)) acc.toList ((ps'.map fun p=>V.ref p.2).map (kfI H)):=Paired.mapP K0 fun v k x=>x.keeps fun b o hb _=>Heap.get?_push_of_some _ (k1 b o hb)
 refine wpAny_bind (wpAny_holding (wpAny_call_entry (s:={ s with heap:=h1.push (seqObj "list" acc.toList.toArray 0),toks:=tk }) slot_list_sort ⟨_,hoL,rfl⟩ entry_list_sort (zbr hoL rv K3 (by lia) fun zs ws v1 v2 v3=>⟨_,rfl,?_⟩) (args_list_sort _)))
 obtain ⟨e,he⟩:=sortedHeap_at (out:=ws.toArray) hoL
 have row:∀ y∈zs,RowAt H y (kfI H y):=fun y hy=>by
  obtain ⟨k,_,rk⟩:=zd0 pr (v2.mem_iff.mp hy)
  rw [ze3 rk];exact rk
 have pys:∀ l:List V,(∀ y∈l,RowAt H y (kfI H y))->Paired (RowAt H) l (l.map (kfI H)):=fun l=>by
  induction l with
  | nil=>intro _;exact .nil
  | cons y l ih=>intro h;exact .cons (h y List.mem_cons_self) (ih fun z hz=>h z (List.mem_cons_of_mem _ hz))
 have lzs:zs.length<=sizeLine:=by
  rw [v2.length_eq,List.length_map,pn.length_eq];exact Nat.le_trans hM (by decide)
 refine wpAny_pure ⟨_,rfl,.ref h1.objs.size,_,I.laid (a:=h1.objs.size) (o:=.lst zs) (t':=tk) (fun b ob z=>?_) (Nat.le_of_lt hsz) ⟨lzs,ws,e,v1,he⟩,rfl,q h1.objs.size zs (zs.map (kfI H)) (I.hok.fresh (Nat.le_of_lt hsz)) (pys zs row) ?_ (List.pairwise_map.mpr v3)⟩
 ·have hb:b<h1.objs.size:=Heap.lt_size (k1 b ob z)
  rw [sortedHeap_old (Nat.ne_of_lt hb) (by rw [Heap.size_push];exact Nat.lt_succ_of_lt hb)]
  exact Heap.get?_push_of_some _ (k1 b ob z)
 ·have:=v2.map (kfI H)
  rw [zeu pr] at this
  exact this.trans (pn.map _)
def rOpR (P:Program)(w:World)(keep:List (List Int)->List (List Int)->List Int->Prop) : V->V->Hp->VK->Prop:=fun x y H Q=>∃ (a b:Addr) (ns ms:List RP),x=.ref a/\y=.ref b/\a≠b/\H a=some (zcm P w a ns)/\H b=some (zcm P w b ms)/\zfm H ns/\zfm H ms/\ns.length+ms.length<127 /\
 ∀ (D:Addr) (ks:List RP),H D=none->(∀ k,k∈ks.map (·.1)↔keep (ns.map (·.1)) (ms.map (·.1)) k)->(ks.map (·.1)).Nodup->zfm H ks->(∀ p∈ks,p∈ns\/p∈ms)->Q (.ref D) (upd H D (zgm P w D ks))
theorem zmr (hu:X.A.units+1<cLine) : OpR X (binaryOp .BitOr) (rOpR X.prog X.w fun n m k=>k∈n\/k∈m):=by
 intro pins s σ H x y v u Q I rx ry ⟨a,b,ns,ms,e1,e2,hab,ha,hb,ra,rb,hl,q⟩
 subst e1 e2
 cases rx
 cases ry
 refine zom hab (I.rset ha ra) (I.rset hb rb) hu hl fun h' ks k hS mem fr len=>?_
 exact ⟨.ref s.heap.objs.size,_,I.laid (a:=s.heap.objs.size) (o:=zgm X.prog X.w s.heap.objs.size ks) (t':=s.toks) (fun b u z=>k b u z) (Nat.le_refl _) (zfv (w_p hS.wk)),rfl,q _ ks (I.hok.fresh (Nat.le_refl _)) mem (w_nd hS.wk) (fun p hp=>(fr p hp).elim (ra p) (rb p)) fr⟩
theorem zkI (hu:X.A.units+1<cLine) : OpR X (binaryOp .BitAnd) (rOpR X.prog X.w fun n m k=>k∈n/\k∈m):=by
 intro pins s σ H x y v u Q I rx ry ⟨a,b,ns,ms,e1,e2,hab,ha,hb,ra,rb,hl,q⟩
 subst e1 e2
 cases rx
 cases ry
 refine znf hab (I.rset ha ra) (I.rset hb rb) hu hl fun h' ks k hS mem fr=>?_
 exact ⟨.ref s.heap.objs.size,_,I.laid (a:=s.heap.objs.size) (o:=zgm X.prog X.w s.heap.objs.size ks) (t':=s.toks) (fun b u z=>k b u z) (Nat.le_refl _) (zfv (w_p hS.wk)),rfl,q _ ks (I.hok.fresh (Nat.le_refl _)) mem (w_nd hS.wk) (fun p hp=>(fr p hp).elim (ra p) (rb p)) fr⟩
theorem zme (hu:X.A.units+1<cLine) : OpR X (binaryOp .Sub) (rOpR X.prog X.w fun n m k=>k∈n/\k∉m):=by
 intro pins s σ H x y v u Q I rx ry ⟨a,b,ns,ms,e1,e2,hab,ha,hb,ra,rb,hl,q⟩
 subst e1 e2
 cases rx
 cases ry
 refine znz (I.rset ha ra) (I.rset hb rb) hu hl fun h' ks k hS mem fr=>?_
 exact ⟨.ref s.heap.objs.size,_,I.laid (a:=s.heap.objs.size) (o:=zgm X.prog X.w s.heap.objs.size ks) (t':=s.toks) (fun b u z=>k b u z) (Nat.le_refl _) (zfv (w_p hS)),rfl,q _ ks (I.hok.fresh (Nat.le_refl _)) mem (w_nd hS) (fun p hp=>ra p (fr p hp)) (fun p hp=>.inl (fr p hp))⟩
theorem zdS (hc:X.calm=true:=by rfl) : JC X (.builtin "sorted") (zfM X.prog X.w):=⟨zeI hc⟩
theorem zn2 {k:Nat}(hr:Room k X.A) : JOp X (binaryOp .BitOr) (rOpR X.prog X.w fun n m k=>k∈n\/k∈m):=⟨zmr (by have:=hr.units;lia)⟩
theorem zmq {k:Nat}(hr:Room k X.A) : JOp X (binaryOp .BitAnd) (rOpR X.prog X.w fun n m k=>k∈n/\k∈m):=⟨zkI (by have:=hr.units;lia)⟩
theorem zno {k:Nat}(hr:Room k X.A) : JOp X (binaryOp .Sub) (rOpR X.prog X.w fun n m k=>k∈n/\k∉m):=⟨zme (by have:=hr.units;lia)⟩
end
end L2
namespace Prf
open PySem L2 Wr
def top (i:Nat) : Stmt:=PySem.Challenge.pw_whenrows_k33_plain_answers.main.body.getD i (.Pass ⟨0,0,0,0⟩)
noncomputable def zjr : {s:Stmt // top 1=s}:=⟨.FunctionDef _ _ _ _ _ _ _ _ _ _,rfl⟩
noncomputable abbrev zh5:Stmt:=zjr.1
noncomputable def zcc : {s:Stmt // top 2=s}:=⟨.FunctionDef _ _ _ _ _ _ _ _ _ _,rfl⟩
noncomputable abbrev za9:Stmt:=zcc.1
noncomputable def zfQ : {s:Stmt // top 9=s}:=⟨.FunctionDef _ _ _ _ _ _ _ _ _ _,rfl⟩
noncomputable abbrev zes:Stmt:=zfQ.1
noncomputable def zjo : {s:Stmt // top 10=s}:=⟨.FunctionDef _ _ _ _ _ _ _ _ _ _,rfl⟩
noncomputable abbrev zie:Stmt:=zjo.1
noncomputable def zey : {s:Stmt // top 11=s}:=⟨.FunctionDef _ _ _ _ _ _ _ _ _ _,rfl⟩
noncomputable abbrev zcy:Stmt:=zey.1
noncomputable def zeM : {s:Stmt // top 12=s}:=⟨.FunctionDef _ _ _ _ _ _ _ _ _ _,rfl⟩
noncomputable abbrev zc2:Stmt:=zeM.1
noncomputable def zdB : {s:Stmt // top 13=s}:=⟨.FunctionDef _ _ _ _ _ _ _ _ _ _,rfl⟩
noncomputable abbrev zbU:Stmt:=zdB.1
noncomputable def zcx : {s:Stmt // top 14=s}:=⟨.FunctionDef _ _ _ _ _ _ _ _ _ _,rfl⟩
noncomputable abbrev zbh:Stmt:=zcx.1
noncomputable def zdJ : {s:Stmt // top 15=s}:=⟨.FunctionDef _ _ _ _ _ _ _ _ _ _,rfl⟩
noncomputable abbrev zcf:Stmt:=zdJ.1
noncomputable def zj4 : {s:Stmt // top 16=s}:=⟨.FunctionDef _ _ _ _ _ _ _ _ _ _,rfl⟩
noncomputable abbrev zia:Stmt:=zj4.1
noncomputable def zeC : {s:Stmt // top 17=s}:=⟨.FunctionDef _ _ _ _ _ _ _ _ _ _,rfl⟩
noncomputable abbrev zdg:Stmt:=zeC.1
noncomputable def zgJ : {s:Stmt // top 18=s}:=⟨.FunctionDef _ _ _ _ _ _ _ _ _ _,rfl⟩
noncomputable abbrev zek:Stmt:=zgJ.1
noncomputable def zc0 : {s:Stmt // top 19=s}:=⟨.FunctionDef _ _ _ _ _ _ _ _ _ _,rfl⟩
noncomputable abbrev zbu:Stmt:=zc0.1
noncomputable def zhc : {s:Stmt // top 20=s}:=⟨.FunctionDef _ _ _ _ _ _ _ _ _ _,rfl⟩
noncomputable abbrev ze6:Stmt:=zhc.1
noncomputable def zg9 : {s:Stmt // top 21=s}:=⟨.FunctionDef _ _ _ _ _ _ _ _ _ _,rfl⟩
noncomputable abbrev ze2:Stmt:=zg9.1
noncomputable def zim : {s:Stmt // top 22=s}:=⟨.FunctionDef _ _ _ _ _ _ _ _ _ _,rfl⟩
noncomputable abbrev zgu:Stmt:=zim.1
noncomputable def zeD : {s:Stmt // top 24=s}:=⟨.FunctionDef _ _ _ _ _ _ _ _ _ _,rfl⟩
noncomputable abbrev zdb:Stmt:=zeD.1
noncomputable def zeT : {s:Stmt // top 25=s}:=⟨.FunctionDef _ _ _ _ _ _ _ _ _ _,rfl⟩
noncomputable abbrev zc9:Stmt:=zeT.1
noncomputable def zeN : {s:Stmt // top 26=s}:=⟨.FunctionDef _ _ _ _ _ _ _ _ _ _,rfl⟩
noncomputable abbrev zcU:Stmt:=zeN.1
noncomputable def zfh : {s:Stmt // top 27=s}:=⟨.FunctionDef _ _ _ _ _ _ _ _ _ _,rfl⟩
noncomputable abbrev zdC:Stmt:=zfh.1
noncomputable def zbt : {s:Stmt // top 28=s}:=⟨.FunctionDef _ _ _ _ _ _ _ _ _ _,rfl⟩
noncomputable abbrev za0:Stmt:=zbt.1
noncomputable def zdl : {s:Stmt // top 29=s}:=⟨.FunctionDef _ _ _ _ _ _ _ _ _ _,rfl⟩
noncomputable abbrev zbA:Stmt:=zdl.1
noncomputable def zgl : {s:Stmt // top 30=s}:=⟨.FunctionDef _ _ _ _ _ _ _ _ _ _,rfl⟩
noncomputable abbrev zd6:Stmt:=zgl.1
noncomputable def zeG : {s:Stmt // top 31=s}:=⟨.FunctionDef _ _ _ _ _ _ _ _ _ _,rfl⟩
noncomputable abbrev zcX:Stmt:=zeG.1
noncomputable def zdN : {s:Stmt // top 32=s}:=⟨.FunctionDef _ _ _ _ _ _ _ _ _ _,rfl⟩
noncomputable abbrev zcn:Stmt:=zdN.1
noncomputable def zdq : {s:Stmt // top 33=s}:=⟨.FunctionDef _ _ _ _ _ _ _ _ _ _,rfl⟩
noncomputable abbrev zbV:Stmt:=zdq.1
noncomputable def zeR : {s:Stmt // top 34=s}:=⟨.FunctionDef _ _ _ _ _ _ _ _ _ _,rfl⟩
noncomputable abbrev zdn:Stmt:=zeR.1
noncomputable def zeH : {s:Stmt // top 35=s}:=⟨.FunctionDef _ _ _ _ _ _ _ _ _ _,rfl⟩
noncomputable abbrev zcQ:Stmt:=zeH.1
noncomputable def zeE : {s:Stmt // top 36=s}:=⟨.FunctionDef _ _ _ _ _ _ _ _ _ _,rfl⟩
noncomputable abbrev zdk:Stmt:=zeE.1
noncomputable def zdM : {s:Stmt // top 37=s}:=⟨.FunctionDef _ _ _ _ _ _ _ _ _ _,rfl⟩
noncomputable abbrev zcg:Stmt:=zdM.1
noncomputable def zgL : {s:Stmt // top 38=s}:=⟨.FunctionDef _ _ _ _ _ _ _ _ _ _,rfl⟩
noncomputable abbrev zeo:Stmt:=zgL.1
noncomputable def zeO : {s:Stmt // top 39=s}:=⟨.FunctionDef _ _ _ _ _ _ _ _ _ _,rfl⟩
noncomputable abbrev zcR:Stmt:=zeO.1
noncomputable def zdp : {s:Stmt // top 40=s}:=⟨.FunctionDef _ _ _ _ _ _ _ _ _ _,rfl⟩
noncomputable abbrev zbT:Stmt:=zdp.1
noncomputable def zeQ : {s:Stmt // top 41=s}:=⟨.FunctionDef _ _ _ _ _ _ _ _ _ _,rfl⟩
noncomputable abbrev zdi:Stmt:=zeQ.1
noncomputable def zmf : {s:Stmt // top 42=s}:=⟨.FunctionDef _ _ _ _ _ _ _ _ _ _,rfl⟩
noncomputable abbrev zlF:Stmt:=zmf.1
section
variable {P:Program}{w:World}{K:PySem.W.Frag}{mg:Str->Option Value}{base:Heap}
theorem zhv:FnScope ["condition","row","kind"] ["condition","row"] (zad zh5):=by walk_at "sc"
theorem zh1 {f:Addr}{fd:FuncData}(F:Fun K "meets" "meets" zh5 f fd)(hm:mg "meets" = some (.ref f))(hk:PySem.W.keepIn K (.ref f)=true)(hb:Binds K fd ["condition","row"] []) : ∀ n,FnOk P w K mg base CX0 n f fd ["condition","row"] (zb7 n)
 | 0=>FnOk.none fun _ _ _ _ ⟨_,_,_,_,_,_,_,_,h,_⟩=>absurd h (Nat.not_lt_zero _)
 | n + 1 => by
  have F_meets:FnP P w K mg base n "meets" ["condition","row"] (zb7 n):=⟨f,fd,zh1 F hm hk hb n,hm,hk,hb⟩
  refine F.okJ zhv (fun vs H Q E h=>?_) (fun cdv A outer s H vs Q E hr h=>?_)
  ·obtain ⟨_,_,_,_,rfl,_⟩:=h
   rfl
  ·obtain ⟨v,rv,c,row,rfl,hc,⟨tr,rfl,hrow⟩,ok,dp,k⟩:=h
   refine ⟨_,(zab (zar 2 zhv.nd (e_ix zag (e_v 0) e_i))
   (zab (s_if (zap o_eq (e_v 2) e_s) (zac (zaj (zfN o_eq (e_ix zag (e_v 1) (e_ix zag (e_v 0) e_i)) (e_ix zag (e_v 1) (e_ix zag (e_v 0) e_i))))) zaq)
   (zab (s_if (zap o_eq (e_v 2) e_s) (zac (zaj (zfN o_eq (e_ix zag (e_v 1) (e_ix zag (e_v 0) e_i)) (e_ix zag (e_v 0) e_i)))) zaq)
   (zab (s_if (zap o_eq (e_v 2) e_s) (zac (zaj (zfN o_lt (e_ix zag (e_v 1) (e_ix zag (e_v 0) e_i)) (e_ix zag (e_v 1) (e_ix zag (e_v 0) e_i))))) zaq)
   (zab (s_if (zap o_eq (e_v 2) e_s) (zac (zaj (zfN o_lt (e_ix zag (e_v 1) (e_ix zag (e_v 0) e_i)) (e_ix zag (e_v 0) e_i)))) zaq)
   (zab (s_if (zap o_eq (e_v 2) e_s) (zac (zaj (zmk (e_fn F_meets hr (ac (e_ix zag (e_v 0) e_i) (a1 (e_v 1))) (Nat.le_refl _)) (zjG (e_fn F_meets hr (ac (e_ix zag (e_v 0) e_i) (a1 (e_v 1))) (Nat.le_refl _)))))) zaq)
   (zab (s_if (zap o_eq (e_v 2) e_s) (zac (zaj (e_or (e_fn F_meets hr (ac (e_ix zag (e_v 0) e_i) (a1 (e_v 1))) (Nat.le_refl _)) (zjG (e_fn F_meets hr (ac (e_ix zag (e_v 0) e_i) (a1 (e_v 1))) (Nat.le_refl _)))))) zaq)
   (zac (zaj (zmd (e_fn F_meets hr (ac (e_ix zag (e_v 0) e_i) (a1 (e_v 1))) (Nat.le_refl _)))))))))))),?_⟩
   cases c with
   | same i j =>
    obtain ⟨t,rfl,ht⟩:=hc
    refine ⟨_,rfl,ixTc ht rfl ?_⟩
    refine ⟨_,rfl,rfl,_,rfl,zaF ?_⟩
    refine ⟨_,rfl,_,rfl,ixTc ht rfl (ixT hrow (zb2 ok.1) ⟨_,rfl,_,rfl,ixTc ht rfl (ixT hrow (zb2 ok.2) ⟨rfl,?_⟩)⟩)⟩
    rw [dI,zaR ok.1,zaR ok.2]
    exact k
   | isv i m =>
    obtain ⟨t,rfl,ht⟩:=hc
    refine ⟨_,rfl,ixTc ht rfl ?_⟩
    walk_at "f"
    refine ⟨_,rfl,rfl,_,rfl,zaF ?_⟩
    refine ⟨_,rfl,_,rfl,ixTc ht rfl (ixT hrow (zb2 (show i<row.length from ok)) ⟨_,rfl,ixTc ht rfl ⟨rfl,?_⟩⟩)⟩
    rw [dI,zaR (show i<row.length from ok)]
    exact k
   | less i j =>
    obtain ⟨t,rfl,ht⟩:=hc
    refine ⟨_,rfl,ixTc ht rfl ?_⟩
    walk_at "f"
    walk_at "f"
    refine ⟨_,rfl,rfl,_,rfl,zaF ?_⟩
    refine ⟨_,rfl,_,rfl,ixTc ht rfl (ixT hrow (zb2 ok.1) ⟨_,rfl,_,rfl,ixTc ht rfl (ixT hrow (zb2 ok.2) ⟨_,_,rfl,rfl,?_⟩)⟩)⟩
    rw [zaR ok.1,zaR ok.2]
    exact k
   | undr i m =>
    obtain ⟨t,rfl,ht⟩:=hc
    refine ⟨_,rfl,ixTc ht rfl ?_⟩
    walk_at "f"
    walk_at "f"
    walk_at "f"
    refine ⟨_,rfl,rfl,_,rfl,zaF ?_⟩
    refine ⟨_,rfl,_,rfl,ixTc ht rfl (ixT hrow (zb2 (show i<row.length from ok)) ⟨_,rfl,ixTc ht rfl ⟨_,_,rfl,rfl,?_⟩⟩)⟩
    rw [zaR (show i<row.length from ok)]
    exact k
   | both a b =>
    obtain ⟨t,va,vb,rfl,ht,ha,hb'⟩:=hc
    have dp':max a.deep b.deep+1<n+1:=dp
    have k':Q (.bl (a.sem row&&b.sem row)) H:=k
    refine ⟨_,rfl,ixTc ht rfl ?_⟩
    walk_at "f"
    walk_at "f"
    walk_at "f"
    walk_at "f"
    refine ⟨_,rfl,rfl,_,rfl,zaF ?_⟩
    refine ⟨_,rfl,ixTc ht rfl ⟨_,rfl,va,_,a,row,rfl,ha,⟨tr,rfl,hrow⟩,ok.1,by lia,_,rfl,?_⟩⟩
    cases e:a.sem row with
    | false =>
     rw [e] at k'
     exact iteF k'
    | true =>
     rw [e,Bool.true_and] at k'
     exact iteT ⟨_,rfl,ixTc ht rfl ⟨_,rfl,vb,_,b,row,rfl,hb',⟨tr,rfl,hrow⟩,ok.2,by lia,k'⟩⟩
   | either a b =>
    obtain ⟨t,va,vb,rfl,ht,ha,hb'⟩:=hc
    have dp':max a.deep b.deep+1<n+1:=dp
    have k':Q (.bl (a.sem row||b.sem row)) H:=k
    refine ⟨_,rfl,ixTc ht rfl ?_⟩
    walk_at "f"
    walk_at "f"
    walk_at "f"
    walk_at "f"
    walk_at "f"
    refine ⟨_,rfl,rfl,_,rfl,zaF ?_⟩
    refine ⟨_,rfl,ixTc ht rfl ⟨_,rfl,va,_,a,row,rfl,ha,⟨tr,rfl,hrow⟩,ok.1,by lia,_,rfl,?_⟩⟩
    cases e:a.sem row with
    | true =>
     rw [e,Bool.true_or] at k'
     exact iteT k'
    | false =>
     rw [e,Bool.false_or] at k'
     exact iteF ⟨_,rfl,ixTc ht rfl ⟨_,rfl,vb,_,b,row,rfl,hb',⟨tr,rfl,hrow⟩,ok.2,by lia,k'⟩⟩
   | neg a =>
    obtain ⟨t,va,rfl,ht,ha⟩:=hc
    have dp':a.deep+1<n+1:=dp
    refine ⟨_,rfl,ixTc ht rfl ?_⟩
    walk_at "f"
    walk_at "f"
    walk_at "f"
    walk_at "f"
    walk_at "f"
    walk_at "f"
    exact ⟨_,rfl,ixTc ht rfl ⟨_,rfl,va,_,a,row,rfl,ha,⟨tr,rfl,hrow⟩,ok,by lia,_,rfl,k⟩⟩
theorem zbd:FnScope ["_law_condition_here","_law_row","_law_word","_law_there"] ["_law_condition_here","_law_row"] (zad zcQ):=by walk_at "sc"
theorem zc5 {f:Addr}{fd:FuncData}(F:Fun K "_law_meets" "_law_meets" zcQ f fd)(hm:mg "_law_meets" = some (.ref f))(hk:PySem.W.keepIn K (.ref f)=true)(hb:Binds K fd ["_law_condition_here","_law_row"] []) : ∀ n,FnOk P w K mg base CX0 n f fd ["_law_condition_here","_law_row"] (zb7 n)
 | 0=>FnOk.none fun _ _ _ _ ⟨_,_,_,_,_,_,_,_,h,_⟩=>absurd h (Nat.not_lt_zero _)
 | n + 1 => by
  have F__law_meets:FnP P w K mg base n "_law_meets" ["_law_condition_here","_law_row"] (zb7 n):=⟨f,fd,zc5 F hm hk hb n,hm,hk,hb⟩
  refine F.okJ zbd (fun vs H Q E h=>?_) (fun cdv A outer s H vs Q E hr h=>?_)
  ·obtain ⟨_,_,_,_,rfl,_⟩:=h
   rfl
  ·obtain ⟨v,rv,c,row,rfl,hc,⟨tr,rfl,hrow⟩,ok,dp,k⟩:=h
   refine ⟨_,(zab (zar 2 zbd.nd (e_ix zag (e_v 0) e_i))
   (zab (s_if (JW.jt (w_or (zap o_eq (e_v 2) e_s) (zeP (zap o_eq (e_v 2) e_s)))) (zac (zar 3 zbd.nd (e_ix zag (e_v 1) (e_ix zag (e_v 0) e_i)))) zaq)
   (zab (s_if (JW.jt (w_or (zap o_eq (e_v 2) e_s) (zeP (zap o_eq (e_v 2) e_s)))) (zac (zar 3 zbd.nd (e_ix zag (e_v 0) e_i))) zaq)
   (zab (s_if (JW.jt (w_or (zap o_eq (e_v 2) e_s) (zeP (zap o_eq (e_v 2) e_s)))) (zac (zaj (zfN o_eq (e_ix zag (e_v 1) (e_ix zag (e_v 0) e_i)) (e_v 3)))) zaq)
   (zab (s_if (JW.jt (w_or (zap o_eq (e_v 2) e_s) (zeP (zap o_eq (e_v 2) e_s)))) (zac (zaj (zfN o_lt (e_ix zag (e_v 1) (e_ix zag (e_v 0) e_i)) (e_v 3)))) zaq)
   (zab (s_if (zap o_eq (e_v 2) e_s) (zac (zaj (zmd (e_fn F__law_meets hr (ac (e_ix zag (e_v 0) e_i) (a1 (e_v 1))) (Nat.le_refl _))))) zaq)
   (zab (s_if (zap o_eq (e_v 2) e_s) (zac (zaj (zmk (e_fn F__law_meets hr (ac (e_ix zag (e_v 0) e_i) (a1 (e_v 1))) (Nat.le_refl _)) (zjG (e_fn F__law_meets hr (ac (e_ix zag (e_v 0) e_i) (a1 (e_v 1))) (Nat.le_refl _)))))) zaq)
   (zac (zaj (e_or (e_fn F__law_meets hr (ac (e_ix zag (e_v 0) e_i) (a1 (e_v 1))) (Nat.le_refl _)) (zjG (e_fn F__law_meets hr (ac (e_ix zag (e_v 0) e_i) (a1 (e_v 1))) (Nat.le_refl _))))))))))))),?_⟩
   cases c with
   | same i j =>
    obtain ⟨t,rfl,ht⟩:=hc
    refine ⟨_,rfl,ixTc ht rfl ?_⟩
    refine ⟨_,rfl,rfl,_,rfl,zaF (iteT ?_)⟩
    refine ⟨_,rfl,_,rfl,ixTc ht rfl (ixT hrow (zb2 ok.2) ?_)⟩
    walk_at "f"; walk_at "f"
    refine ⟨_,rfl,rfl,_,rfl,zaF (iteT ?_)⟩
    refine ⟨_,rfl,_,rfl,ixTc ht rfl (ixT hrow (zb2 ok.1) ⟨_,rfl,rfl,?_⟩)⟩
    rw [dI,zaR ok.1,zaR ok.2]
    exact k
   | isv i m =>
    obtain ⟨t,rfl,ht⟩:=hc
    refine ⟨_,rfl,ixTc ht rfl ?_⟩
    walk_at "f"; walk_at "f"
    refine ⟨_,rfl,rfl,_,rfl,zaF (iteT ?_)⟩
    refine ⟨_,rfl,ixTc ht rfl ?_⟩
    refine ⟨_,rfl,rfl,_,rfl,iteSF (by decide +kernel) ⟨_,rfl,rfl,_,rfl,zaF ?_⟩⟩
    refine ⟨_,rfl,_,rfl,ixTc ht rfl (ixT hrow (zb2 (show i<row.length from ok)) ⟨_,rfl,rfl,?_⟩)⟩
    rw [dI,zaR (show i<row.length from ok)]
    exact k
   | less i j =>
    obtain ⟨t,rfl,ht⟩:=hc
    refine ⟨_,rfl,ixTc ht rfl ?_⟩
    refine ⟨_,rfl,rfl,_,rfl,iteSF (by decide +kernel) ⟨_,rfl,rfl,_,rfl,zaF ?_⟩⟩
    refine ⟨_,rfl,_,rfl,ixTc ht rfl (ixT hrow (zb2 ok.2) ?_)⟩
    walk_at "f"; walk_at "f"
    walk_at "f"; walk_at "f"
    refine ⟨_,rfl,rfl,_,rfl,zaF (iteT ?_)⟩
    refine ⟨_,rfl,_,rfl,ixTc ht rfl (ixT hrow (zb2 ok.1) ⟨_,rfl,_,_,rfl,rfl,?_⟩)⟩
    rw [zaR ok.1,zaR ok.2]
    exact k
   | undr i m =>
    obtain ⟨t,rfl,ht⟩:=hc
    refine ⟨_,rfl,ixTc ht rfl ?_⟩
    walk_at "f"; walk_at "f"
    refine ⟨_,rfl,rfl,_,rfl,iteSF (by decide +kernel) ⟨_,rfl,rfl,_,rfl,zaF ?_⟩⟩
    refine ⟨_,rfl,ixTc ht rfl ?_⟩
    walk_at "f"; walk_at "f"
    refine ⟨_,rfl,rfl,_,rfl,iteSF (by decide +kernel) ⟨_,rfl,rfl,_,rfl,zaF ?_⟩⟩
    refine ⟨_,rfl,_,rfl,ixTc ht rfl (ixT hrow (zb2 (show i<row.length from ok)) ⟨_,rfl,_,_,rfl,rfl,?_⟩)⟩
    rw [zaR (show i<row.length from ok)]
    exact k
   | both a b =>
    obtain ⟨t,va,vb,rfl,ht,ha,hb'⟩:=hc
    have dp':max a.deep b.deep+1<n+1:=dp
    have k':Q (.bl (a.sem row&&b.sem row)) H:=k
    refine ⟨_,rfl,ixTc ht rfl ?_⟩
    walk_at "f"; walk_at "f"
    walk_at "f"; walk_at "f"
    walk_at "f"; walk_at "f"
    walk_at "f"; walk_at "f"
    walk_at "f"
    refine ⟨_,rfl,rfl,_,rfl,zaF ?_⟩
    refine ⟨_,rfl,ixTc ht rfl ⟨_,rfl,va,_,a,row,rfl,ha,⟨tr,rfl,hrow⟩,ok.1,by lia,_,rfl,?_⟩⟩
    cases e:a.sem row with
    | false =>
     rw [e] at k'
     exact iteF k'
    | true =>
     rw [e,Bool.true_and] at k'
     exact iteT ⟨_,rfl,ixTc ht rfl ⟨_,rfl,vb,_,b,row,rfl,hb',⟨tr,rfl,hrow⟩,ok.2,by lia,k'⟩⟩
   | either a b =>
    obtain ⟨t,va,vb,rfl,ht,ha,hb'⟩:=hc
    have dp':max a.deep b.deep+1<n+1:=dp
    have k':Q (.bl (a.sem row||b.sem row)) H:=k
    refine ⟨_,rfl,ixTc ht rfl ?_⟩
    walk_at "f"; walk_at "f"
    walk_at "f"; walk_at "f"
    walk_at "f"; walk_at "f"
    walk_at "f"; walk_at "f"
    walk_at "f"
    walk_at "f"
    refine ⟨_,rfl,ixTc ht rfl ⟨_,rfl,va,_,a,row,rfl,ha,⟨tr,rfl,hrow⟩,ok.1,by lia,_,rfl,?_⟩⟩
    cases e:a.sem row with
    | true =>
     rw [e,Bool.true_or] at k'
     exact iteT k'
    | false =>
     rw [e,Bool.false_or] at k'
     exact iteF ⟨_,rfl,ixTc ht rfl ⟨_,rfl,vb,_,b,row,rfl,hb',⟨tr,rfl,hrow⟩,ok.2,by lia,k'⟩⟩
   | neg a =>
    obtain ⟨t,va,rfl,ht,ha⟩:=hc
    have dp':a.deep+1<n+1:=dp
    refine ⟨_,rfl,ixTc ht rfl ?_⟩
    walk_at "f"; walk_at "f"
    walk_at "f"; walk_at "f"
    walk_at "f"; walk_at "f"
    walk_at "f"; walk_at "f"
    refine ⟨_,rfl,rfl,_,rfl,zaF ?_⟩
    exact ⟨_,rfl,ixTc ht rfl ⟨_,rfl,va,_,a,row,rfl,ha,⟨tr,rfl,hrow⟩,ok,by lia,_,rfl,k⟩⟩
end
section
variable {P:Program}{w:World}{K:PySem.W.Frag}{mg:Str->Option Value}{base:Heap}
def zal:Sp:=fun vs H Q _=>∃ (c k:Int),vs=[.int c,.int k]/\0<=k/\k<=1000/\∀ r:Int,0<=r->r<2147483647->Q (.int r) H
theorem zaZ:FnScope ["_law_cell","_law_k","_law_left","_law_j","_law_one"] ["_law_cell","_law_k"] (zad zc9):=by walk_at "sc"
theorem zfk {f:Addr}{fd:FuncData}(F:Fun K "_law_mixed" "_law_mixed" zc9 f fd)(B:Blts mg) : FnOk P w K mg base CX0 1 f fd ["_law_cell","_law_k"] zal:=by
 refine F.okJ zaZ (fun vs H Q E h=>?_) (fun cdv A outer s H vs Q E hr h=>?_)
 ·obtain ⟨_,_,rfl,_⟩:=h
  rfl
 ·obtain ⟨c,k,rfl,k0,k1,q⟩:=h
  refine ⟨_,(zab (s_if (zap o_gt (e_v 0) (e_op zgg e_i e_i)) (zab (zar 2 zaZ.nd (e_op zaT (e_v 0) e_i))
    (zab (zdI (zcM B.range (a1 (e_v 1))) (g_n 3 zaZ.nd)
     (zac (zar 2 zaZ.nd (e_op zaT (e_v 2) (e_op zgg e_i e_i)))))
    (zac (zaj (e_op zaC (e_v 2) (e_op zgg e_i e_i)))))) zaq)
   (zab (zar 4 zaZ.nd (e_op zaC (e_op zcw (e_op zaM (e_op zaM (e_op zaC (e_v 0) e_i) (e_op zcw (e_op zcw e_i (e_v 1)) (e_v 1))) (e_op zcw e_i (e_v 1))) e_i) e_i))
   (zac (zaj (e_op zaC (e_op zcw (e_v 4) (e_op zaM (e_op zaM (e_op zaC (e_v 4) e_i) (e_op zcw e_i (e_v 1))) e_i)) e_i))))),?_⟩
  refine ⟨_,rfl,_,_,rfl,rfl,⟨by decide,by decide,by decide⟩,_,_,rfl,rfl,_,rfl,?_⟩
  refine ite2 (fun _=>?_) (fun _=>?_)
  ·refine ⟨_,rfl,_,_,rfl,rfl,⟨by decide,by decide⟩,?_⟩
   refine ⟨_,rfl,_,rfl,by lia,by lia,zeb (n:=k.toNat) (fun i σ H'=>∃ (l:Int) (o:Option V),σ=[some (.int c),some (.int k),some (.int l),o,none]/\H'=H) ⟨_,none,rfl,rfl⟩ ?_ ?_⟩
   ·rintro i σ H' hi ⟨l,o,rfl,rfl⟩
    exact ⟨_,rfl,_,_,rfl,rfl,⟨by decide,by decide,by decide⟩,_,_,rfl,rfl,⟨by decide,by decide⟩,_,_,rfl,rfl⟩
   ·rintro σ H' ⟨l,o,rfl,rfl⟩
    exact ⟨_,rfl,_,_,rfl,rfl,⟨by decide,by decide,by decide⟩,_,_,rfl,rfl,by show (0:Int)<10 ^ (7:Int).toNat;decide,q _ (Int.emod_nonneg _ (by decide)) (Int.lt_of_lt_of_le (Int.emod_lt_of_pos _ (by decide)) (by decide))⟩
  ·refine ⟨_,rfl,_,_,rfl,rfl,pz,_,rfl,_,_,rfl,rfl,.inl ⟨by decide,by decide⟩,_,rfl,_,_,rfl,rfl,.inr ⟨by lia,by lia⟩,_,_,rfl,rfl,_,rfl,_,_,rfl,rfl,.inl ⟨by decide,by decide⟩,_,_,rfl,rfl,_,_,rfl,rfl,.inr ⟨by decide,by decide⟩,_,_,rfl,rfl,pz,?_⟩
   have b1:0<=(c % 2147483647+40503*k*k+17*k)*48271 % 2147483647:=Int.emod_nonneg _ (by decide)
   have b2:(c % 2147483647+40503*k*k+17*k)*48271 % 2147483647<2147483647:=Int.emod_lt_of_pos _ (by decide)
   generalize (c % 2147483647+40503*k*k+17*k)*48271 % 2147483647=n1 at b1 b2 ⊢
   have c1:0<=n1 % 65537:=Int.emod_nonneg _ (by decide)
   have c2:n1 % 65537<65537:=Int.emod_lt_of_pos _ (by decide)
   exact ⟨_,rfl,_,rfl,_,_,rfl,rfl,pz,_,rfl,_,_,rfl,rfl,.inl ⟨by decide,by decide⟩,_,_,rfl,rfl,_,_,rfl,rfl,_,_,rfl,rfl,.inl ⟨by lia,by lia⟩,_,_,rfl,rfl,pz,q _ (Int.emod_nonneg _ (by decide)) (Int.lt_of_lt_of_le (Int.emod_lt_of_pos _ (by decide)) (by decide))⟩
def zdF:Sp:=fun vs H Q _=>∃ (c:Int),vs=[.int c]/\∀ (p:Addr) (H':Hp) (x y z:Int),Same H H'->H p=none->H' p=some (.lst [.int x,.int y,.int z])->Q (.ref p) H'
theorem zbm:FnScope ["_law_cell","_law_first"] ["_law_cell"] (zad zdC):=by walk_at "sc"
theorem zgG {f:Addr}{fd:FuncData}(F:Fun K "_law_pool" "_law_pool" zdC f fd)(F__law_mixed:FnP P w K mg base 1 "_law_mixed" ["_law_cell","_law_k"] zal) : FnOk P w K mg base CX0 2 f fd ["_law_cell"] zdF:=by
 refine F.okJ zbm (fun vs H Q E h=>?_) (fun cdv A outer s H vs Q E hr h=>?_)
 ·obtain ⟨_,rfl,_⟩:=h
  rfl
 ·obtain ⟨c,rfl,q⟩:=h
  refine ⟨_,(zab (zar 1 zbm.nd (e_op zgE (e_op zaC (e_op zcw (e_op zcw (e_fn F__law_mixed hr (ac (e_v 0) (a1 e_i))) (e_fn F__law_mixed hr (ac (e_v 0) (a1 e_i)))) (e_fn F__law_mixed hr (ac (e_v 0) (a1 e_i)))) (e_op zcw e_i (e_op zgg e_i e_i))) (e_op zgg e_i e_i)))
   (zab (s_if (zap o_gt (e_v 0) (e_op zgg e_i e_i)) (zac (zar 1 zbm.nd (e_op zgE (e_op zaC (e_op zaT (e_v 0) e_i) (e_op zcw e_i (e_op zgg e_i e_i))) (e_op zgg e_i e_i)))) zaq)
   (zab (s_if (zap o_eq (e_op zaC (e_v 0) e_i) e_i) (zac (zar 1 zbm.nd (e_op zgE e_i (e_op zaC (e_op zaT (e_v 0) e_i) e_i)))) zaq)
   (zac (zaj (zbC (ac (e_v 1) (ac (e_op zaM (e_op zaM (e_v 1) e_i) (e_op zaC (e_fn F__law_mixed hr (ac (e_v 0) (a1 e_i))) e_i)) (a1 (e_op zaM (e_op zaM (e_v 1) e_i) (e_fn F__law_mixed hr (ac (e_v 0) (a1 e_i))))))))))))),?_⟩
  refine ⟨_,rfl,c,30,rfl,by decide,by decide,fun r1 _ _=>⟨_,rfl,c,31,rfl,by decide,by decide,fun r2 h21 h22=>⟨_,_,rfl,rfl,.inr ⟨by lia,by lia⟩,_,rfl,c,32,rfl,by decide,by decide,fun r3 h31 h32=>⟨_,_,rfl,rfl,.inr ⟨by lia,by lia⟩,_,_,rfl,rfl,⟨by decide,by decide,by decide⟩,_,_,rfl,rfl,.inl ⟨by decide,by decide⟩,_,_,rfl,rfl,by show (0:Int)<2*10 ^ (26:Int).toNat;decide,_,_,rfl,rfl,⟨by decide,by decide,by decide⟩,_,_,rfl,rfl,?_⟩⟩⟩⟩
  have last:∀ a:Int,tRet (tLst (zaf (tVar 1) (zaf (tOp (rI0 fun i j=>.int (i+j)) (tOp (rI0 fun i j=>.int (i+j)) (tVar 1) (tC (.int 1))) (tOp (rI (fun _ j=>0<j) fun i j=>.int (i % j)) (zbp zal [] E0 (zaf (tVar 0) (zaf (tC (.int 33)) tNil))) (tC (.int 5))))
    (zaf (tOp (rI0 fun i j=>.int (i+j)) (tOp (rI0 fun i j=>.int (i+j)) (tVar 1) (tC (.int 9))) (zbp zal [] E0 (zaf (tVar 0) (zaf (tC (.int 34)) tNil)))) tNil)))) { nx:=fun _ H'=>Q .non H',rt:=Q } [some (.int c),some (.int a)] H:=by
   intro a
   refine ⟨_,rfl,_,rfl,_,_,rfl,rfl,_,rfl,c,33,rfl,by decide,by decide,fun r4 _ _=>⟨_,_,rfl,rfl,pz,_,_,rfl,rfl,_,rfl,_,_,rfl,rfl,_,rfl,c,34,rfl,by decide,by decide,fun r5 _ _=>⟨_,_,rfl,rfl,by show 3<=sizeLine;decide,fun p hp=>?_⟩⟩⟩
   exact q p _ _ _ _ ((Same.refl H).upd hp) hp zaa
  refine ⟨_,rfl,_,_,rfl,rfl,⟨by decide,by decide,by decide⟩,_,_,rfl,rfl,_,rfl,?_⟩
  have two:∀ a:Int,tSeq (tIfS (zb3 (tOp rEq (tOp (rI (fun _ j=>0<j) fun i j=>.int (i % j)) (tVar 0) (tC (.int 3))) (tC (.int 0)))) (tAsg (tOp (rI0 fun i j=>.int (i-j)) (tC (.int 0)) (tOp (rI (fun _ j=>0<j) fun i j=>.int (i % j)) (tOp (rI CDiv fun i j=>.int (i / j)) (tVar 0) (tC (.int 3))) (tC (.int 2)))) (zas 1)) zgw)
    (tRet (tLst (zaf (tVar 1) (zaf (tOp (rI0 fun i j=>.int (i+j)) (tOp (rI0 fun i j=>.int (i+j)) (tVar 1) (tC (.int 1))) (tOp (rI (fun _ j=>0<j) fun i j=>.int (i % j)) (zbp zal [] E0 (zaf (tVar 0) (zaf (tC (.int 33)) tNil))) (tC (.int 5))))
    (zaf (tOp (rI0 fun i j=>.int (i+j)) (tOp (rI0 fun i j=>.int (i+j)) (tVar 1) (tC (.int 9))) (zbp zal [] E0 (zaf (tVar 0) (zaf (tC (.int 34)) tNil)))) tNil))))) { nx:=fun _ H'=>Q .non H',rt:=Q } [some (.int c),some (.int a)] H:=by
   intro a
   refine ⟨_,rfl,_,_,rfl,rfl,pz,rfl,_,rfl,?_⟩
   refine ite2 (fun _=>?_) (fun _=>last a)
   exact ⟨_,rfl,_,_,rfl,rfl,⟨by decide,by decide⟩,_,_,rfl,rfl,pz,_,_,rfl,rfl,last _⟩
  refine ite2 (fun _=>?_) (fun _=>two _)
  exact ⟨_,rfl,_,_,rfl,rfl,⟨by decide,by decide⟩,_,_,rfl,rfl,⟨by decide,by decide,by decide⟩,_,_,rfl,rfl,.inl ⟨by decide,by decide⟩,_,_,rfl,rfl,by show (0:Int)<2*10 ^ (26:Int).toNat;decide,_,_,rfl,rfl,⟨by decide,by decide,by decide⟩,_,_,rfl,rfl,two _⟩
def zbb:Sp:=fun vs H Q _=>∃ (n:Int),vs=[.int n]/\Q (.bl true) H
theorem zfI:FnScope ["_law_found"] ["_law_found"] (zad zdb):=by walk_at "sc"
theorem zfl {f:Addr}{fd:FuncData}(F:Fun K "_law_whole" "_law_whole" zdb f fd)(B:Blts mg) : FnOk P w K mg base CX0 1 f fd ["_law_found"] zbb:=by
 refine F.okJ zfI (fun vs H Q E h=>?_) (fun cdv A outer s H vs Q E hr h=>?_)
 ·obtain ⟨_,rfl,_⟩:=h
  rfl
 ·obtain ⟨n,rfl,k⟩:=h
  refine ⟨_,(zac (zaj (zmk (e_cb zkC B.isinstance PyProof.Rows.boot_isinstance (ac (e_v 0) (a1 (e_ty B.int PyProof.Rows.boot_int)))) (zjG (zmd (e_cb zkC B.isinstance PyProof.Rows.boot_isinstance (ac (e_v 0) (a1 (e_ty B.bool PyProof.Rows.boot_bool))))))))),?_⟩
  refine ⟨_,rfl,_,_,_,_,rfl,.int _,zfG K "int", _,rfl,iteT ?_⟩
  exact ⟨_,rfl,_,_,_,_,rfl,.int _,(by kernel_rfl:PySem.W.kitOne K (.type "int") (.type "bool")=some false),_,rfl,k⟩
theorem ze1 {i:Int}(h0:0<=i)(h1:i<26) : atI (Str.ofString "abcdefghijklmnopqrstuvwxyz").cps.toList i=some (97+i.toNat):=by
 have e:(Str.ofString "abcdefghijklmnopqrstuvwxyz").cps.toList=(List.range 26).map (97+·):=by decide +kernel
 obtain ⟨j,rfl⟩ : ∃ j:Nat,i=(j:Int):=⟨i.toNat,by lia⟩
 rw [e,Int.toNat_natCast]
 have hj:j<26:=by lia
 exact za1 (by simp [hj])
theorem zg1:(Str.ofString "abcdefghijklmnopqrstuvwxyz").length=26:=by decide +kernel
def zcT:Sp:=fun vs H Q _=>∃ (c:Int) (n:Nat),vs=[.int c,.int (n:Int)]/\n<=20/\∀ (p:Addr) (H':Hp) (ys:List Str),Same H H'->H p=none->H' p=some (.lst (ys.map V.str))->ys.length=n->ys.Nodup->(∀ y∈ys,y.length<=8)->Q (.ref p) H'
theorem zcV:FnScope ["_law_cell","_law_many","_law_letters","_law_word","_law_at","_law_first"] ["_law_cell","_law_many"] (zad zcU):=by walk_at "sc"
theorem zfC {f:Addr}{fd:FuncData}(F:Fun K "_law_words" "_law_words" zcU f fd)(B:Blts mg)(FM:FnP P w K mg base 1 "_law_mixed" ["_law_cell","_law_k"] zal) : FnOk P w K mg base CX0 2 f fd ["_law_cell","_law_many"] zcT:=by
 refine F.okJ zcV (fun vs H Q E h=>?_) (fun cdv A outer s H vs Q E hr h=>?_)
 ·obtain ⟨_,_,rfl,_⟩:=h
  rfl
 ·obtain ⟨c,n,rfl,n20,k⟩:=h
  have nd:=zcV.nd
  have nd3:(["_law_k","_law_letters","_law_cell"] : List Str).Nodup:=by decide +kernel
  have nd5:(["_law_k","_law_word","_law_letters","_law_at","_law_first"] : List Str).Nodup:=by decide +kernel
  refine ⟨_,(zab (zar 2 nd e_s)
   (zab (zar 3 nd (zna e_s (a1c (zaP (Nc:=["_law_k","_law_letters","_law_cell"]) (js:=[none,some 2,some 0]) (g:=(zas 0)) (tt:=tYes) (te:=(tOp rIxS (tVar 1) (tOp (rI (fun _ j=>0<j) fun i j=>.int (i % j)) (zbp zal [] E0 (zaf (tVar 2) (zaf (tVar 0) tNil))) (tC (.int 26)))))
   (zat rfl rfl rfl rfl (fun x c h=>by simp at h;rcases h with ⟨rfl,rfl⟩ | ⟨rfl,rfl⟩<;>rfl) rfl rfl rfl) (zcM B.range (a1 (e_op zaM e_i (e_op zaC (e_v 0) e_i))))
   (fun pins C s3 H3 fp=>⟨(g_n 0 nd3),.inl ⟨rfl,rfl⟩,(e_ix zmO (e_v 1) (e_op zaC (e_fn FM hr (ac (e_v 2) (a1 (e_v 0)))) e_i))⟩)))))
   (zab (zar 4 nd (e_op zaC (e_fn FM hr (ac (e_v 0) (a1 e_i))) (e_cb znc B.len PySem.boot_len (a1 (e_v 3)))))
   (zab (zar 5 nd (e_fn FM hr (ac (e_v 0) (a1 e_i))))
   (zac (zaj (zaP (Nc:=["_law_k","_law_word","_law_letters","_law_at","_law_first"]) (js:=[none,some 3,some 2,some 4,some 5]) (g:=(zas 0)) (tt:=tYes) (te:=(tOp (fun x y H Q=>∃ i j,x=.str i/\y=.str j/\i.length+j.length<=sizeLine/\Q (.str (i++j)) H) (tOp (fun x y H Q=>∃ i j,x=.str i/\y=.str j/\i.length+j.length<=sizeLine/\Q (.str (i++j)) H) (tSl rSlS (tVar 1) zdr (zf7 (tVar 3))) (tOp rIxS (tVar 2) (tOp (rI (fun _ j=>0<j) fun i j=>.int (i % j)) (tOp (rI0 fun i j=>.int (i+j)) (tVar 4) (tVar 0)) (tC (.int 26))))) (tSl rSlS (tVar 1) (zf7 (tOp (rI0 fun i j=>.int (i+j)) (tVar 3) (tC (.int 1)))) zdr)))
   (zat rfl rfl rfl rfl (fun x c h=>by simp at h;rcases h with ⟨rfl,rfl⟩ | ⟨rfl,rfl⟩ | ⟨rfl,rfl⟩ | ⟨rfl,rfl⟩<;>rfl) rfl rfl rfl) (zcM B.range (a1 (e_v 1)))
   (fun pins C s3 H3 fp=>⟨(g_n 0 nd5),.inl ⟨rfl,rfl⟩,(e_op zll (e_op zll (zlG (e_v 1) (e_v 3)) (e_ix zmO (e_v 2) (e_op zaC (e_op zaM (e_v 4) (e_v 0)) e_i))) (zmy (e_v 1) (e_op zaM (e_v 3) e_i)))⟩)))))))),?_⟩
  have m1:=Int.emod_nonneg c (show (8:Int)≠0 by decide)
  have m2:=Int.emod_lt_of_pos c (show (0:Int)<8 by decide)
  have lts:∀ z:Int,(Str.ofString "abcdefghijklmnopqrstuvwxyz").length<=sizeLine:=fun _=>by rw [zg1];decide
  obtain ⟨wl,ewl,hwl⟩ : ∃ wl:Nat,(1+c % 8).toNat=wl/\1<=wl/\wl<=8:=⟨_,rfl,by lia,by lia⟩
  refine ⟨rfl,_,rfl,_,_,rfl,rfl,pz,_,_,rfl,rfl,_,rfl,by lia,by lia,fun D hD=>?_⟩
  rw [ewl]
  refine zbD (n:=wl) (fun i σ H'=>∃ (o:Option V) (ys:List Str),σ=[o,some (.str (Str.ofString "abcdefghijklmnopqrstuvwxyz")),some (.int c)]/\Same H H'/\H' D=some (.lst (ys.map V.str))/\ys.length=i/\∀ y∈ys,y.cps.toList.length=1) ⟨none,[],rfl,(Same.refl H).upd hD,zaa,rfl,fun y h=>nomatch h⟩ ?_ ?_
  ·rintro i σ H' hi ⟨o,ys,rfl,sm,hl,ly,one⟩
   refine ⟨_,rfl,_,rfl,_,rfl,c,_,rfl,by lia,by lia,fun r r0 r1=>⟨_,_,rfl,rfl,pz,_,_,_,rfl,rfl,lts 0,ze1 (Int.emod_nonneg _ (by decide)) (Int.emod_lt_of_pos _ (by decide)),_,hl,zah (by rw [List.length_map];lia),_,ys++[_],rfl,sm.upd hD,by rw [zaa,List.map_append];rfl,by rw [List.length_append,List.length_singleton];lia,fun y hy=>?_⟩⟩
   rcases List.mem_append.mp hy with z | z
   ·exact one y z
   ·rw [List.mem_singleton.mp z];rfl
  rintro σ H1 ⟨o,ys,rfl,s1,hl,ly,one⟩
  have tot:(ys.map (·.length)).sum=ys.length:=by
   clear hl ly
   induction ys with
   | nil=>rfl
   | cons y ys ih =>
    rw [List.map_cons,List.sum_cons,ih fun z hz=>one z (List.mem_cons_of_mem _ hz),List.length_cons]
    have:=one y List.mem_cons_self
    rw [str_len,this];lia
  have wlen:(Txt.join "" ys).length=wl:=by
   rw [str_len,join_none,List.length_flatMap,show (ys.map fun y=>y.cps.toList.length)=ys.map (·.length) from List.map_congr_left fun y _=>(str_len y).symm,tot,ly]
  refine ⟨"", D,ys,rfl,rfl,SqL.of hl,by rw [tot,ly];show wl+wl*0<=_;lia,?_⟩
  generalize Txt.join "" ys=wd at wlen
  refine ⟨_,rfl,c,19,rfl,by decide,by decide,fun r1 _ _=>⟨_,rfl,wd,rfl,by rw [wlen];exact Nat.le_trans hwl.2 (by decide),_,_,rfl,rfl,by rw [wlen];lia,?_⟩⟩
  obtain ⟨ap,eap,hap⟩:=zmb (r:=r1) (n:=wl) (by lia)
  dsimp only [zas]
  rw [wlen,eap]
  refine ⟨_,rfl,c,20,rfl,by decide,by decide,fun fr _ _=>?_⟩
  refine ⟨_,rfl,_,rfl,by lia,by lia,fun D2 hD2=>?_⟩
  rw [Int.toNat_natCast]
  let wordL:Nat->List Nat:=fun i=>wd.cps.toList.take ap++[97+((fr+(0+(i:Int))) % 26).toNat]++wd.cps.toList.drop (ap+1)
  refine zbD (n:=n) (fun i σ H'=>∃ (o:Option V) (zs:List Str),σ=[o,some (.str wd),some (.str (Str.ofString "abcdefghijklmnopqrstuvwxyz")),some (.int (ap:Int)),some (.int fr)]/\Same H1 H'/\H' D2=some (.lst (zs.map V.str))/\zs.map (fun z=>z.cps.toList)=(List.range i).map wordL) ⟨none,[],rfl,(Same.refl H1).upd hD2,zaa,rfl⟩ ?_ ?_
  ·rintro i σ H' hi ⟨o,zs,rfl,sm,hl2,ez⟩
   have lz:zs.length=i:=by have:=congrArg List.length ez;rwa [List.length_map,List.length_map,List.length_range] at this
   have a1':ap<=wd.length:=by lia
   have a2':ap+1<=wd.length:=by lia
   have l1:(Txt.slice wd none (some (ap:Int))).length<=8:=Nat.le_trans (Txt.slice_le _ _ _) (by lia)
   have l2:(Txt.slice wd (some ((ap+1:Nat) : Int)) none).length<=8:=Nat.le_trans (Txt.slice_le _ _ _) (by lia)
   have szl:∀ n,n<=100->n<=sizeLine:=fun n h=>Nat.le_trans h (by decide)
   refine ⟨_,rfl,_,rfl,ap,rfl,wd,rfl,szl _ (by lia),_,rfl,_,rfl,_,rfl,_,_,rfl,rfl,_,_,rfl,rfl,pz,_,_,_,rfl,rfl,lts 0,ze1 (Int.emod_nonneg _ (by decide)) (Int.emod_lt_of_pos _ (by decide)),_,_,rfl,rfl,?_,?_⟩
   ·exact szl _ (by show _+1<=_;lia)
   refine ⟨_,rfl,_,rfl,_,_,rfl,rfl,(ap+1:Nat),rfl,wd,rfl,szl _ (by lia),_,_,rfl,rfl,?_,?_⟩
   ·rw [str_len,zfd,List.length_append,<- str_len]
    exact szl _ (by show _+1+_<=_;lia)
   refine ⟨_,hl2,zah (by rw [List.length_map];lia),_,zs++[_],rfl,sm.upd hD2,by rw [zaa,List.map_append];rfl,?_⟩
   rw [List.map_append,ez,List.range_succ,List.map_append]
   congr 1
   show [_]=[_]
   congr 1
   show (Txt.slice wd none (some (ap:Int))++_++Txt.slice wd (some ((ap+1:Nat) : Int)) none:Str).cps.toList=_
   rw [zfd,zfd,ziH a1',ziz a2']
  rintro σ H2 ⟨o,zs,rfl,sm,hl2,ez⟩
  have lz:zs.length=n:=by have:=congrArg List.length ez;rwa [List.length_map,List.length_map,List.length_range] at this
  refine k D2 H2 zs (s1.trans sm) (s1.free hD2) hl2 lz ?_ fun z hz=>?_
  ·have nw:((List.range n).map wordL).Nodup:=by
    rw [List.Nodup,List.pairwise_map]
    refine List.Pairwise.imp_of_mem ?_ (List.nodup_range (n:=n))
    intro i j hi hj ne
    have hi':=List.mem_range.mp hi
    have hj':=List.mem_range.mp hj
    refine zl9 (by rw [<- str_len];lia) fun e=>ne ?_
    have q1:=Int.emod_nonneg (fr+(0+(i:Int))) (show (26:Int)≠0 by decide)
    have q2:=Int.emod_nonneg (fr+(0+(j:Int))) (show (26:Int)≠0 by decide)
    lia
   rw [<- ez] at nw
   exact (List.pairwise_map.mp nw).imp fun h e=>h (by rw [e])
  ·have:z.cps.toList∈(List.range n).map wordL:=by rw [<- ez];exact List.mem_map_of_mem hz
   obtain ⟨i,_,e⟩:=List.mem_map.mp this
   rw [str_len,<- e]
   show (wd.cps.toList.take ap++[_]++wd.cps.toList.drop (ap+1)).length<=8
   rw [List.length_append,List.length_append,List.length_take,List.length_drop,<- str_len]
   simp only [List.length_cons,List.length_nil]
   lia
end
end Prf
namespace L2
open PySem PySem.Spec PyProof.Rows
section
variable {X:Cx}
def zlv (K:W.Frag) : List V->Hp->VK->Prop:=fun xs H Q=>∃ (l:Addr) (ns:List Int),xs=[.ref l]/\SqL K H l (ns.map V.int)/\ns.length<64/\∀ (D:Addr) (ns':List Int),H D=none->ns'.Perm ns->ns'.Pairwise (· <= ·)->Q (.ref D) (upd H D (.lst (ns'.map V.int)))
theorem zeK:zb4 X (.builtin "sorted") (zlv X.K):=by
 intro pins s σ H xs us Q I r ⟨l,ns,e,hl,h64,q⟩
 subst e
 obtain ⟨u,rfl,ru⟩:=Vals.one r
 cases ru
 obtain ⟨its,rv,pl,_⟩:=I.list hl
 have hlen:=rv.length
 rw [List.length_map] at hlen
 refine sorted_ints pl.isList (intsAre_of rv) (by lia) fun out ns' a1 a2 a3=>?_
 obtain ⟨e,he⟩:=sortedAll_at s.heap its out
 have hl':ns'.length<64:=by rw [a2.length_eq];exact h64
 exact ⟨.ref (s.heap.objs.size+1),_,I.laid (a:=s.heap.objs.size+1) (o:=.lst (ns'.map V.int)) (t':=s.toks) (fun b ob z=>sortedAll_old z) (Nat.le_succ _) ⟨by rw [List.length_map];exact zh6 hl',out.toList,e,zd5 a1,he⟩,rfl,q _ ns' (I.hok.fresh (Nat.le_succ _)) a2 a3⟩
theorem zmm:JC X (.builtin "sorted") (zlv X.K):=⟨zeK⟩
theorem zor {x y:Int}{A B:Prop}(e:x=y)(h:A) : if decide (V.int x=V.int y)=true then A else B:=by rw [if_pos (decide_eq_true (by rw [e]))];exact h
theorem zow {x y:Int}{A B:Prop}(e:x≠y)(h:B) : if decide (V.int x=V.int y)=true then A else B:=by rw [if_neg (fun z=>e (V.int.inj (of_decide_eq_true z)))];exact h
theorem zjV {α:Type}{xs:List α}{v:α}(h:xs[xs.length-1]?=some v)(hp:0<xs.length) : atI xs (-1)=some v:=by
 obtain ⟨h1,h2⟩:=List.getElem?_eq_some_iff.mp h
 have e:xs=xs.take (xs.length-1)++[v]:=by
  rw [<- h2,<- List.take_succ_eq_append_getElem h1,Nat.sub_add_cancel hp,List.take_length]
 rw [e]
 exact zhI _ _
variable {a b:Expr}{ta tb:TE}{pos:Pos}
end
end L2
namespace Prf
open PySem L2 Wr
structure LinesOf (ks ls:List (List Int)) : Prop where
 ord:ls.Pairwise fun a b=>lexI b a=false
 nd:ls.Nodup
 mem:∀ r,r∈ls↔r∈ks
theorem LinesOf.uniq {ks ks' ls ls':List (List Int)}(h:LinesOf ks ls)(h':LinesOf ks' ls')(e:∀ r,r∈ks↔r∈ks') : ls=ls' :=
 zeV ((List.perm_ext_iff_of_nodup h.nd h'.nd).mpr fun r=>by rw [h.mem,h'.mem,e]) h.ord h'.ord
theorem zg0 (a b:List Int) : PyData.eqv (dRow a) (dRow b)=decide (a=b):=by unfold dRow;rw [PyData.eqv];exact zep a b
theorem zcs (r:List Int) : SeqAt.shaped (dRow r)=true:=by
 have e:=zcv r
 unfold SeqAt.shaped dRow
 simp only [PyData.canLay0,PyData.depth,e.1,e.2]
 rfl
theorem zkF {ss ls:List (List Int)}{i:Nat}{r last:List Int}(hs:ss.Pairwise fun a b=>lexI b a=false)(hr:ss[i]?=some r)(L:LinesOf (ss.take i) ls)(hl:ls.getLast?=some last)(ne:last≠r) : LinesOf (ss.take (i+1)) (ls++[r]):=by
 have hi:i<ss.length:=gE hr
 have below:∀ x∈ls,lexI r x=false:=fun x hx=>by
  have:x∈ss.take i:=(L.mem x).mp hx
  obtain ⟨j,hj⟩:=List.getElem?_of_mem this
  have hj1:j<(ss.take i).length:=gE hj
  rw [List.length_take] at hj1
  rw [List.getElem?_take_of_lt (by lia)] at hj
  obtain ⟨a1,h1⟩:=List.getElem?_eq_some_iff.mp hj
  obtain ⟨a2,h2⟩:=List.getElem?_eq_some_iff.mp hr
  have:=(List.pairwise_iff_getElem.mp hs) j i a1 a2 (by lia)
  rwa [h1,h2] at this
 have hlast:last∈ls:=List.mem_of_getLast? hl
 have nr:r∉ls:=fun hr'=>by
  have le:lexI last r=false:=by
   obtain ⟨ini,e⟩ : ∃ ini,ls=ini++[last]:=by
    rw [List.getLast?_eq_some_iff] at hl;exact hl
   have o:=L.ord
   rw [e] at o hr'
   rcases List.mem_append.mp hr' with z | z
   ·exact (List.pairwise_append.mp o).2.2 r z last (by simp)
   ·exact absurd (List.mem_singleton.mp z).symm ne
  exact ne (zby le (below last hlast))
 refine ⟨List.pairwise_append.mpr ⟨L.ord,List.pairwise_singleton ..,fun x hx y hy=>?_⟩,List.nodup_append.mpr ⟨L.nd,List.pairwise_singleton ..,fun x hx y hy e=>?_⟩,fun x=>?_⟩
 ·rw [List.mem_singleton.mp hy];exact below x hx
 ·rw [List.mem_singleton.mp hy] at e;rw [e] at hx;exact nr hx
 ·rw [take_snoc hr,List.mem_append,List.mem_append,L.mem]
theorem zkQ {ss ls:List (List Int)}{i:Nat}{r:List Int}(hr:ss[i]?=some r)(L:LinesOf (ss.take i) ls)(hm:r∈ls) : LinesOf (ss.take (i+1)) ls:=by
 refine ⟨L.ord,L.nd,fun x=>?_⟩
 rw [take_snoc hr,List.mem_append,<- L.mem]
 exact ⟨.inl,fun h=>h.elim id fun z=>by rw [List.mem_singleton.mp z];exact hm⟩
end Prf
namespace L2
open PySem PySem.Spec PyProof.Rows
def EmptyAt (h:Heap)(v:Value) : Prop:=∃ a o n,v=.ref a/\h.get? a=some o/\o.cls=.type "tuple" /\ o.data=.seq #[] n
theorem EmptyAt.keeps {h h':Heap}{v:Value}(x:EmptyAt h v)(kp:∀ a o,h.get? a=some o->o.cls=.type "tuple" -> h'.get? a=some o) : EmptyAt h' v:=by
 obtain ⟨a,o,n,e,ho,hc,hd⟩:=x
 exact ⟨a,o,n,e,kp a o ho hc,hc,hd⟩
section
variable {prog:Program}{w:World}{A:Around}{E:Value->Shared->Prop}{s:Shared}
theorem zik {vs:List Value}{Q:SortKind->Shared->Prop}(K:∀ v∈vs,EmptyAt s.heap v)(h2:2<=vs.length)(h:Q oneType' s) : wpAny (model prog w) A (keyKind' vs.toArray) Q E s:=by
 obtain ⟨v₁,v₂,rest,rfl⟩ : ∃ v₁ v₂ rest,vs=v₁::v₂::rest:=by
  match vs,h2 with
  | [],h2=>simp at h2
  | [_],h2=>simp at h2
  | v₁::v₂::rest,_=>exact ⟨v₁,v₂,rest,rfl⟩
 rw [keyKind'_eq,List.mapM_toArray,map_eq_pure_bind]
 refine wpAny_bind (wpAny_bind (W.kas_mapM (r:=none) _ (fun v hv Q' hq=>?_) (wpAny_pure ?_)))
 ·obtain ⟨a,o,n,rfl,ho,hc,hd⟩:=K v hv
  rw [W.kas_first_eq]
  refine wpAny_bind (W.Looks.here (show W.Looks (model prog w) s.heap (typeOf (.ref a)) o.cls from (W.Looks.ld ho).andThen .now) ?_)
  rw [hc,if_neg (by first | decide | simp)]
  exact wpAny_bind (listItems_at ho hd (wpAny_pure hq))
 ·rw [if_neg (by simp),if_neg (by simp)]
  rw [oneTypeOnly'_eq,List.mapM_toArray,map_eq_pure_bind]
  refine wpAny_bind (wpAny_bind (wpAny_bind (W.kas_mapM (r:=.type "tuple") _ (fun v hv Q' hq=>?_) (wpAny_pure ?_))))
  ·obtain ⟨a,o,n,rfl,ho,hc,hd⟩:=K v hv
   refine W.Looks.here (show W.Looks (model prog w) s.heap (typeOf (.ref a)) o.cls from (W.Looks.ld ho).andThen .now) ?_
   rw [hc];exact hq
  have hall:((List.map (fun _=>Value.type "tuple") (v₁::v₂::rest)).toArray.all fun x=>x == Value.type "tuple")=true:=by
   simp only [List.all_toArray,List.all_map,List.all_eq_true]
   intro _ _
   show (Value.type "tuple" == Value.type "tuple")=true
   decide
  have h0:(List.map (fun _=>Value.type "tuple") (v₁::v₂::rest)).toArray[0]?=some (Value.type "tuple"):=by simp
  rw [h0]
  simp only [hall,if_true]
  exact wpAny_pure (wpAny_pure h)
theorem zkM {x y:Value}{Q:Bool->Shared->Prop}(hu:A.units<cLine)(hx:EmptyAt s.heap x)(hy:EmptyAt s.heap y)(h:Q false s) : wpAny (model prog w) A (keyLt' oneType' x y) Q E s:=by
 obtain ⟨a,o,n,rfl,ho,hc,hd⟩:=hx
 obtain ⟨b,o',n',rfl,ho',hc',hd'⟩:=hy
 have T1:s.TypeIs (.ref a) "tuple" := ⟨o,ho,hc⟩
 have T2:s.TypeIs (.ref b) "tuple" := ⟨o',ho',hc'⟩
 rw [keyLt'_oneType,oneLt'_eq]
 simp only [if_true]
 refine wpAny_bind (wpAny_cRoomFor hu ?_)
 refine wpAny_bind (wpAny_callSpecialIfBound?_slot (name := "__lt__") T1 F.slot_tuple_lt (wpAny_call_entry F.slot_tuple_lt T1 F.entry_tuple_lt ?_ (F.args_tuple_lt_2 _ _)))
 unfold Builtin.«tuple.__lt__»
 show wpAny _ _ (slotArgs "__lt__" 1 ⟨[.ref a,.ref b],[]⟩ >>= _) _ _ _
 unfold slotArgs
 refine wpAny_bind (wpAny_pure ?_)
 dsimp only
 refine wpAny_bind (wpAny_isInstance T2 sub_tuple_self ?_)
 rw [if_neg (by decide)]
 refine wpAny_bind (wpAny_tupleItemsOf ho hd ?_)
 refine wpAny_bind (wpAny_tupleItemsOf ho' hd' ?_)
 refine wpAny_pure ⟨_,rfl,?_⟩
 show wpAny _ _ (truthOfDropped (.bool false)) Q E s
 exact wpAny_truthy_bool h
theorem zhh (hu:A.units<cLine) : Wr.Tells prog w A s oneType' (fun _=>(0:Int)) (fun x=>EmptyAt s.heap x.1):=by
 intro x y hx hy Q h
 exact zkM hu hx hy h
theorem zb6 {a:Addr}{n:Nat}{xs:List V}{vs:List Value}{P:PySem.Fin->Shared->Prop}(ho:s.heap.get? a=some (seqObj "list" vs.toArray n))(r:Vals xs vs)(hu:A.units<cLine)(K:∀ v∈vs,EmptyAt s.heap v)(hb:vs.length<=100000)
  (h:∀ (ys:List V) (ws:List Value),Vals ys ws->ys.Perm xs->P (.done (.ret .none)) { s with heap:=sortedHeap s.heap a vs ws.toArray }) :
  wpAny (model prog w) A (Builtin.«list.sort» ⟨[.ref a],[]⟩) P E s:=by
 rw [list_sort_plain];have ha:a<s.heap.objs.size:=Heap.lt_size ho
 have hl:=Vals.length r
 have b1:(100000:Nat)<=sizeLine:=by decide
 refine wpAny_bind (listItems_at ho rfl ?_)
 refine wpAny_bind (listUpdate_at ho rfl ?_)
 obtain ⟨e1,ho1⟩ : ∃ e1,(s.heap.update a (Obj.mapSeq fun _=>#[])).get? a=some (seqObj "list" #[] e1):=⟨_,get?_update_seq ho (fun _=>#[])⟩
 refine wpAny_bind (seqEpoch_at ho1 rfl ?_)
 refine wpAny_bind (wpAny_newTuple ?_)
 refine wpAny_bind (wpAny_newList ?_);refine wpAny_holding ?_
 have ho6:(((s.heap.update a (Obj.mapSeq fun _=>#[])).push (seqObj "tuple" vs.toArray 0)).push (seqObj "list" #[] 0)).get? a=some (seqObj "list" #[] e1):=by
  rw [Heap.get?_push_ne _ _ _ (by rw [size_push',Heap.size_update];exact Nat.ne_of_lt (Nat.lt_succ_of_lt ha)),Heap.get?_push_ne _ _ _ (by rw [Heap.size_update];exact Nat.ne_of_lt ha)];exact ho1
 show wpAny (model prog w) A _ P E { s with heap:=((s.heap.update a (Obj.mapSeq fun _=>#[])).push (seqObj "tuple" vs.toArray 0)).push (seqObj "list" #[] 0) }
 dsimp only
 have hsz:vs.toArray.size=vs.length:=by simp
 by_cases h2:vs.toArray.size<2
 ·rw [if_pos h2,if_pos h2]
  refine wpAny_bind (wpAny_pure ?_);rw [StateT.run_pure]
  refine wpAny_bind (wpAny_pure ?_);dsimp only
  refine wpAny_bind (seqEpoch_at ho6 rfl ?_)
  have eo:(arrOf (SortSt.mk' general' (vs.toArray.zip vs.toArray) #[] 7 none)).map (·.2)=vs.toArray:=by
   show ((vs.toArray.zip vs.toArray)).map (·.2)=vs.toArray
   apply Array.toList_inj.mp
   rw [Array.toList_map,Array.toList_zip,List.map_snd_zip]
   simp
  rw [eo];refine wpAny_bind (listUpdate_at ho6 rfl ?_ (hsz2:=by rw [hsz,sizeLine_eq];lia))
  simp only [bne_self_eq_false,Bool.false_eq_true,if_false];exact wpAny_pure (h xs vs r (List.Perm.refl _))
 rw [if_neg h2,if_neg h2]
 have K6:∀ v∈vs,EmptyAt (((s.heap.update a (Obj.mapSeq fun _=>#[])).push (seqObj "tuple" vs.toArray 0)).push (seqObj "list" #[] 0)) v:=fun v hv=>(K v hv).keeps fun b o hb hc=>by
  have ne:b≠a:=fun e=>by rw [e,ho] at hb;cases hb;have hc':Value.type "list" = Value.type "tuple" := hc;injection hc' with q;exact absurd q (by decide)
  have hlt:b<s.heap.objs.size:=Heap.lt_size hb
  rw [Heap.get?_push_ne _ _ _ (by rw [size_push',Heap.size_update];exact Nat.ne_of_lt (Nat.lt_succ_of_lt hlt)),Heap.get?_push_ne _ _ _ (by rw [Heap.size_update];exact Nat.ne_of_lt hlt),Heap.get?_update_ne _ _ _ _ ne];exact hb
 generalize hs6:({ s with heap:=((s.heap.update a (Obj.mapSeq fun _=>#[])).push (seqObj "tuple" vs.toArray 0)).push (seqObj "list" #[] 0) } : Shared)=s6
 have K6':∀ v∈vs,EmptyAt s6.heap v:=(by rw [<- hs6];exact K6)
 refine wpAny_bind (zik K6' (by rw [hsz] at h2;lia) ?_)
 have zl:(vs.toArray.zip vs.toArray).toList=(xs.zip vs).map fun p=>(p.2,p.2):=by
  rw [Array.toList_zip]
  show vs.zip vs=_
  exact zjB r
 refine wpAny_bind (wpAny_mono (Wr.t_runs (a₀:=vs.toArray.zip vs.toArray) (g:=7) (Q:=fun _ st'=>∃ arr pend g,st'=Wr.SS (oneType') arr pend g/\arr.toList.Perm (vs.toArray.zip vs.toArray).toList/\Wr.Srt (fun _:Keyed=>(0:Int)) arr.toList) (zhh (prog:=prog) (w:=w) (A:=A) (s:=s6) hu) (fun x hx=>?_) fun arr pend g p q=>⟨arr,pend,g,rfl,p,q⟩) ?_ fun _ _ z=>z)
 ·rw [zl] at hx
  obtain ⟨p,hp,rfl⟩:=List.mem_map.mp hx
  exact K6' p.2 (List.of_mem_zip hp).2
 ·rintro ⟨⟨⟩,st'⟩ s' ⟨rfl,arr,pend,g,e,pm,st⟩
  obtain rfl:st'=Wr.SS (oneType') arr pend g:=e
  dsimp only
  rw [zl] at pm
  obtain ⟨ps,pp,pq⟩:=zfY pm rfl
  have out:arr.map (·.2)=(ps.map (·.2)).toArray:=by
   apply Array.toList_inj.mp
   rw [Array.toList_map,<- pq,List.map_map]
   rfl
  have lo:(ps.map (·.2)).length=vs.length:=by
   rw [List.length_map,pp.length_eq,List.length_zip];lia
  subst hs6
  refine wpAny_bind (seqEpoch_at ho6 rfl ?_)
  show wpAny (model prog w) A (do
   _
   _) P E _
  have o2:(arrOf (Wr.SS (oneType') arr pend g)).map (·.2)=(ps.map (·.2)).toArray:=out
  rw [o2]
  refine wpAny_bind (listUpdate_at ho6 rfl ?_ (hsz2:=(by rw [List.size_toArray,lo,sizeLine_eq];rw [sizeLine_eq] at b1;lia)))
  have hf:failedOf (Wr.SS (oneType') arr pend g)=none:=rfl
  rw [hf]
  simp only [bne_self_eq_false,Bool.false_eq_true,if_false]
  have inz:∀ p∈ps,p∈xs.zip vs:=fun p hp=>pp.mem_iff.mp hp
  have hv:Vals (ps.map (·.1)) (ps.map (·.2)):=zid fun p hp=>zh4 r p (inz p hp)
  refine wpAny_pure (h _ _ hv ?_)
  have:=pp.map (fun p:V×Value=>p.1)
  rwa [show (xs.zip vs).map (fun p:V×Value=>p.1)=xs from List.map_fst_zip (by lia)] at this
end
section
variable {X:Cx}{pins:List (Addr×Obj)}{σ:St}{H:Hp}{s:Shared}
def zjT (K:W.Frag) : List V->Hp->VK->Prop:=fun xs H Q=>∃ (l:Addr) (ys:List V) (ks:List (List Int)),xs=[.ref l]/\SqL K H l ys/\Paired (RowAt H) ys ks/\((∀ k∈ks,k≠[])\/∀ k∈ks,k=[])/\ks.length<=10000 /\
 ∀ (D:Addr) (ys':List V) (ks':List (List Int)),H D=none->Paired (RowAt H) ys' ks'->ks'.Perm ks->(ks'.Pairwise fun a b=>lexI b a=false)->Q (.ref D) (upd H D (.lst ys'))
theorem zjJ {h:Heap}{v:Value}{y:V}(I:Inv X pins σ H s)(k:∀ b o,s.heap.get? b=some o->h.get? b=some o)(r:RelV y v)(e:RowAt H y []) : EmptyAt h v:=by
 obtain ⟨a,rfl,hh⟩:=e
 cases r
 obtain ⟨_,its,rv,o,ho,hc,n,hd⟩:=I.hok a _ hh
 cases rv
 exact ⟨a,o,n,rfl,k _ _ ho,hc,hd⟩
theorem zeY {h:Heap}(I:Inv X pins σ H s)(k:∀ b o,s.heap.get? b=some o->h.get? b=some o) : ∀ {ys:List V} {vs:List Value} {ks:List (List Int)},Vals ys vs->Paired (RowAt H) ys ks->(∀ k∈ks,k=[])->(∀ v∈vs,EmptyAt h v)/\∀ y∈ys,kfI H y=[]:=by
 intro ys vs ks r
 induction r generalizing ks with
 | nil=>intro p _;exact ⟨fun _ z=>(nomatch z),fun _ z=>(nomatch z)⟩
 | cons r _ ih =>
  intro p ne
  cases p with
  | cons q t =>
   rename_i k' ks'
   obtain ⟨h1,h2⟩:=ih t fun x hx=>ne x (List.mem_cons_of_mem _ hx)
   have e:=ne k' List.mem_cons_self
   subst e
   constructor
   ·intro v hv
    rcases List.mem_cons.mp hv with z | z
    ·rw [z];exact zjJ I k r q
    ·exact h1 v z
   ·intro y hy
    rcases List.mem_cons.mp hy with z | z
    ·rw [z];exact ze3 q
    ·exact h2 y z
theorem zez (hc:X.calm=true)(hu:X.A.units+3<cLine) : zb4 X (.builtin "sorted") (zjT X.K):=by
 intro pins s σ H xs us Q I r ⟨l,ys,ks,e,hl,pr,ne,hM,q⟩
 subst e
 obtain ⟨u,rfl,ru⟩:=Vals.one r
 cases ru
 obtain ⟨its,rv,pl,_⟩:=I.list hl
 have hlen:=rv.length
 have lk:=Paired.length pr
 have lM:its.length<=10000:=by lia
 have hz:its.length<=sizeLine:=znq lM
 refine Calls.call_function_entry kind_sorted plain_sorted entry_sorted (args_sorted1 _) ?_
 unfold Builtin.«sorted»
 refine wpAny_bind (m:=checkCount "sorted" 1 1 _) (wpAny_pure (wpAny_bind (collect_list pl.isList (wpAny_bind (wpAny_newList ?_ hz)) hz)))
 have k1:∀ b o,s.heap.get? b=some o->((s.heap.push (seqObj "list" #[] 0)).update s.heap.objs.size (Obj.mapSeq (· ++ its.toArray))).get? b=some o:=fun b o q=>by
  have hb:b<s.heap.objs.size:=Heap.lt_size q
  rw [Heap.get?_update_other _ _ (Nat.ne_of_gt hb)]
  exact Heap.get?_push_of_some _ q
 have hsz:s.heap.objs.size<=((s.heap.push (seqObj "list" #[] 0)).update s.heap.objs.size (Obj.mapSeq (· ++ its.toArray))).objs.size:=by
  rw [Heap.size_update,Heap.size_push];exact Nat.le_succ _
 generalize ((s.heap.push (seqObj "list" #[] 0)).update s.heap.objs.size (Obj.mapSeq (· ++ its.toArray)))=h3 at k1 hsz ⊢
 have hoL:(h3.push (seqObj "list" its.toArray 0)).get? h3.objs.size=some (seqObj "list" its.toArray 0):=Heap.get?_push_size _ rfl
 have k3:∀ b o,s.heap.get? b=some o->(h3.push (seqObj "list" its.toArray 0)).get? b=some o:=fun b o hb=>Heap.get?_push_of_some _ (k1 b o hb)
 have srt:∀ {A':Around} {E':Value->Shared->Prop} {P:PySem.Fin->Shared->Prop},A'.units<cLine->(∀ (zs:List V) (ws:List Value),Vals zs ws->zs.Perm ys->za2 (kfI H) zs->P (.done (.ret .none)) { s with heap:=sortedHeap (h3.push (seqObj "list" its.toArray 0)) h3.objs.size its ws.toArray })->wpAny (model X.prog X.w) A' (Builtin.«list.sort» ⟨[.ref h3.objs.size],[]⟩) P E' { s with heap:=h3.push (seqObj "list" its.toArray 0) }:=by
  intro A' E' P hu' hP
  rcases ne with ne | ne
  ·have K0:=zec I rv pr ne
   rw [<- zeu pr] at K0
   have K3:KeysAt (h3.push (seqObj "list" its.toArray 0)) its (ys.map (kfI H)):=Paired.mapP K0 fun v k x=>x.keeps fun b o hb _=>k3 b o hb
   exact zbr (s:={ s with heap:=h3.push (seqObj "list" its.toArray 0) }) hoL rv K3 (by lia) hP
  ·obtain ⟨em,ek⟩:=zeY I k3 rv pr ne
   refine zb6 (s:={ s with heap:=h3.push (seqObj "list" its.toArray 0) }) hoL rv hu' em (by lia) fun zs ws v1 v2=>hP zs ws v1 v2 ?_
   unfold za2
   refine List.pairwise_of_forall_mem_list fun x hx y hy=>?_
   rw [ek x (v2.mem_iff.mp hx),ek y (v2.mem_iff.mp hy)]
   rfl
 refine wpAny_bind (wpAny_holding (wpAny_call_entry (s:={ s with heap:=h3.push (seqObj "list" its.toArray 0) }) slot_list_sort ⟨_,hoL,rfl⟩ entry_list_sort (srt (by first | (show X.A.units+2<cLine;lia) | (show X.A.units+1<cLine;lia) | (show X.A.units+3<cLine;lia) | (simp;lia)) fun zs ws v1 v2 v3=>⟨_,rfl,?_⟩) (args_list_sort _)))
 obtain ⟨e,he⟩:=sortedHeap_at (out:=ws.toArray) hoL
 have row:∀ y∈zs,RowAt H y (kfI H y):=fun y hy=>by
  have go:∀ {xs:List V} {ks:List (List Int)},Paired (RowAt H) xs ks->y∈xs->RowAt H y (kfI H y):=by
   intro xs ks p
   induction p with
   | nil=>intro z;cases z
   | cons r _ ih =>
    intro z
    rcases List.mem_cons.mp z with e | z
    ·subst e;rw [ze3 r];exact r
    ·exact ih z
  exact go pr (v2.mem_iff.mp hy)
 have pys:∀ l:List V,(∀ y∈l,RowAt H y (kfI H y))->Paired (RowAt H) l (l.map (kfI H)):=fun l=>by
  induction l with
  | nil=>intro _;exact .nil
  | cons y l ih=>intro h;exact .cons (h y List.mem_cons_self) (ih fun z hz=>h z (List.mem_cons_of_mem _ hz))
 have hl':zs.length<=10000:=by rw [v2.length_eq];lia
 refine wpAny_pure ⟨_,rfl,.ref h3.objs.size,_,I.laid (a:=h3.objs.size) (o:=.lst zs) (t':=s.toks) (fun b ob z=>?_) hsz ⟨znq hl',ws,e,v1,he⟩,rfl,q h3.objs.size zs (zs.map (kfI H)) (I.hok.fresh hsz) (pys zs row) ?_ (List.pairwise_map.mpr v3)⟩
 ·have hb:b<h3.objs.size:=Heap.lt_size (k1 b ob z)
  rw [sortedHeap_old (Nat.ne_of_lt hb) (by rw [Heap.size_push];exact Nat.lt_succ_of_lt hb)]
  exact Heap.get?_push_of_some _ (k1 b ob z)
 ·rw [<- zeu pr]
  exact v2.map _
theorem zky (hc:X.calm=true:=by rfl){k:Nat}(hr:Room k X.A) : JC X (.builtin "sorted") (zjT X.K):=⟨zez hc (by have:=hr.units;lia)⟩
end
end L2
namespace Prf
open PySem L2 Wr
theorem zfb {α β:Type}{R:α->β->Prop} : ∀ {xs:List α} {ys:List β} {i:Nat} {y:β},Paired R xs ys->ys[i]?=some y->∃ x,xs[i]?=some x/\R x y
 | _,_,0,_,.cons r _,h=>by simp at h;exact ⟨_,rfl,h ▸ r⟩
 | _,_,i+1,_,.cons _ t,h=>by simp at h;obtain ⟨x,a,b⟩:=zfb t h;exact ⟨x,by simpa using a,b⟩
section
variable {P:Program}{w:World}{K:PySem.W.Frag}{mg:Str->Option Value}{base:Heap}
def zba:Sp:=fun vs H Q _=>∃ (l:Addr) (ys:List V) (ks:List (List Int)),vs=[.ref l]/\H l=some (.lst ys)/\Paired (RowAt H) ys ks/\((∀ k∈ks,k≠[])\/∀ k∈ks,k=[])/\ks.length<=900 /\
 ∀ (p:Addr) (H':Hp) (zs:List V) (ls:List (List Int)),Same H H'->H p=none->H' p=some (.lst zs)->Paired (RowAt H') zs ls->LinesOf ks ls->Q (.ref p) H'
theorem zcK:FnScope ["_law_rows","_law_told","_law_row"] ["_law_rows"] (zad zdn):=by walk_at "sc"
theorem zfc {f:Addr}{fd:FuncData}(F:Fun K "_law_lines" "_law_lines" zdn f fd)(B:Blts mg) : FnOk P w K mg base CX0 1 f fd ["_law_rows"] zba:=by
 refine F.okJ zcK (fun vs H Q E h=>?_) (fun cdv A outer s H vs Q E hr h=>?_)
 ·obtain ⟨_,_,_,rfl,_⟩:=h
  rfl
 ·obtain ⟨l,ys,ks,rfl,hl,pr,ne,k64,k⟩:=h
  have nd:=zcK.nd
  refine ⟨_,(zab (zar 1 nd (zbC a0))
   (zab (zdI (zaz (e_cb (zky (hr:=hr)) B.sorted PyProof.Rows.boot_sorted (a1 (e_v 0)))) (g_n 2 nd)
    (zac (s_if (JW.jt (w_or (zap o_eq (e_cb zcd B.len PySem.boot_len (a1 (e_v 1))) e_i) (zeP (zap (zoo hr) (e_ix zaw (e_v 1) (e_un zmM e_i)) (e_v 2))))) (zac (ziy (e_v 1) (e_v 2))) zaq)))
   (zac (zaj (e_v 1))))),?_⟩
  refine ⟨Nat.zero_le _,fun b hb=>?_⟩
  obtain ⟨H0,e,s0,u0⟩:=fresh (.lst []) hb;rw [e];clear e
  refine ⟨_,rfl,l,ys,ks,rfl,SqL.of (s0 _ _ hl),rS s0 pr,ne,by lia,fun D ys' ss hD pr' pm ord=>?_⟩
  have s1:Same H0 (upd H0 D (.lst ys')):=(Same.refl H0).upd hD
  have u1:upd H0 D (.lst ys') D=some (.lst ys'):=zaa
  have pr1:Paired (RowAt (upd H0 D (.lst ys'))) ys' ss:=Paired.mapP pr' fun _ _ z=>RowAt.same s1 z
  have ub:=s1 _ _ u0
  have s01:=s0.trans s1
  generalize upd H0 D (.lst ys')=H1 at s1 u1 pr1 ub s01 ⊢
  have ly:ys'.length=ss.length:=Paired.length pr1
  have ls64:ss.length<=900:=by rw [pm.length_eq];exact k64
  have nbD:b≠D:=fun z=>by rw [z,hD] at u0;cases u0
  refine ⟨D,rfl,⟨ys',SqL.of u1⟩,zbl (K:=K) (a:=D) (xs:=ys') (fun i σ H'=>∃ (o:Option V) (zs:List V) (ls:List (List Int)),σ=[some (.ref l),some (.ref b),o]/\Same H H'/\(∀ c xs,H1 c=some (.tup xs)->H' c=some (.tup xs))/\H' D=some (.lst ys')/\H' b=some (.lst zs)/\Paired (RowAt H') zs ls/\LinesOf (ss.take i) ls/\(i=0/\ls=[]\/∃ last,ls.getLast?=some last/\0<i))
   ⟨none,[],[],rfl,s01,fun _ _ h=>h,u1,ub,.nil,⟨.nil,.nil,fun r=>by simp⟩,.inl ⟨rfl,rfl⟩⟩ (fun i σ H' _ ⟨_,_,_,_,_,_,h,_⟩=>SqL.of h) ?_ ?_⟩
  ·rintro i x σ H2 hx ⟨o,zs,ls,rfl,sm,tp,hD2,hb2,pz,L,last⟩
   obtain ⟨r,hr1,t,rfl,ht⟩:=zan pr1 hx
   have hi:i<ss.length:=gE hr1
   have ht2:=tp _ _ ht
   have lz:zs.length=ls.length:=Paired.length pz
   have ll:ls.length<=i:=by
    have:=zaB L.nd (m:=ss.take i) fun x hx=>(L.mem x).mp hx
    rw [List.length_take] at this
    lia
   have app:∀ (D':Ends),LinesOf (ss.take (i+1)) (ls++[r])->(∀ σ' H'',(∃ (o:Option V) (zs:List V) (ls:List (List Int)),σ'=[some (.ref l),some (.ref b),o]/\Same H H''/\(∀ c xs,H1 c=some (.tup xs)->H'' c=some (.tup xs))/\H'' D=some (.lst ys')/\H'' b=some (.lst zs)/\Paired (RowAt H'') zs ls/\LinesOf (ss.take (i+1)) ls/\(i+1=0/\ls=[]\/∃ last,ls.getLast?=some last/\0<i+1))->D'.nx σ' H'') ->
     zgC (tBM K "list" zdz (tVar 1) (zaf (tVar 2) tNil)) D' [some (.ref l),some (.ref b),some (.ref t)] H2:=by
    intro D' L' hN
    have nt:=zbW hb2
    refine ⟨_,rfl,.inl ⟨rfl,_,SqL.of hb2⟩,_,rfl,b,zs,_,rfl,rfl,hb2,zah (by lia),hN _ _ ⟨_,zs++[.ref t],ls++[r],rfl,sm.upd hb,fun c xs h=>zc6 nt _ _ (tp _ _ h),by rw [zam nbD.symm];exact hD2,zaa,?_,L',.inr ⟨r,by simp,by lia⟩⟩⟩
    exact zak (R:=RowAt (upd H2 b (.lst (zs++[.ref t])))) ⟨t,rfl,zc6 nt _ _ ht2⟩ (Paired.mapP pz fun _ _ ⟨u,e1,e2⟩=>⟨u,e1,zc6 nt _ _ e2⟩)
   refine ⟨_,rfl,b,zs,rfl,.inl (SqL.of hb2),rfl,_,rfl,?_⟩
   rcases last with ⟨rfl,rfl⟩ | ⟨last,hlast,ipos⟩
   ·have:zs=[]:=List.length_eq_zero_iff.mp lz
    subst this
    refine zor rfl (iteT (app _ ?_ fun σ' H'' h=>h))
    exact ⟨List.pairwise_singleton ..,List.pairwise_singleton ..,fun x=>by rw [take_snoc hr1];simp⟩
   ·have lpos:0<ls.length:=List.length_pos_of_mem (List.mem_of_getLast? hlast)
    refine zow (by rw [lz];lia) ?_
    obtain ⟨ini,e⟩ : ∃ ini,ls=ini++[last]:=by rw [List.getLast?_eq_some_iff] at hlast;exact hlast
    have hli:ls[ls.length-1]?=some last:=by rw [<- List.getLast?_eq_getElem?];exact hlast
    obtain ⟨v,hv,t',rfl,ht'⟩:=zfb pz hli
    refine ⟨_,rfl,_,rfl,b,zs,_,_,rfl,rfl,SqL.of hb2,zjV (by rw [lz];exact hv) (by lia),_,rfl,_,_,RowAt.den ⟨t',rfl,ht'⟩,RowAt.den ⟨t,rfl,ht2⟩,zcs _,zcs _,_,rfl,?_⟩
    rw [zg0]
    by_cases z:last=r
    ·rw [decide_eq_true z]
     refine iteF ⟨_,zs,ls,rfl,sm,tp,hD2,hb2,pz,zkQ hr1 L (by rw [<- z];exact List.mem_of_getLast? hlast),.inr ⟨last,hlast,by lia⟩⟩
    ·rw [decide_eq_false z]
     exact iteT (app _ (zkF ord hr1 L hlast z) fun σ' H'' h=>h)
  ·rintro σ H2 ⟨o,zs,ls,rfl,sm,tp,hD2,hb2,pz,L,last⟩
   rw [ly,List.take_length] at L
   exact ⟨_,rfl,k b H2 zs ls sm hb hb2 pz ⟨L.ord,L.nd,fun r=>by rw [L.mem,pm.mem_iff]⟩⟩
end
end Prf
namespace L2
open PySem PySem.Spec PyProof.Rows
section
variable {X:Cx}{pins:List (Addr×Obj)}{σ:St}{H:Hp}{s:Shared}
variable {o e f:Expr}{apos cpos:Pos}{td ty tx:TE}{k:Nat}
end
end L2
namespace Prf
open PySem L2 Wr
def pick (cs:List Nat)(r:List Int) : List Int:=cs.map fun i=>r.getD i 0
def colV (cs:List Nat) : List V:=cs.map fun (i:Nat)=>V.int (i:Int)
theorem zaW (cs:List Nat)(r:List Int) : (pick cs r).length=cs.length:=List.length_map ..
theorem zfr (r:List Int) : (dRow r).canLay0=true/\(dRow r).depth<=60:=by
 have e:=zcv r
 unfold dRow
 simp only [PyData.canLay0,PyData.depth,e.1,e.2]
 exact ⟨trivial,by decide⟩
theorem any_rows (ls:List (List Int))(r:List Int) : ((ls.map dRow).any fun e=>PyData.eqv e (dRow r))=ls.any fun x=>decide (x=r):=by
 rw [List.any_map]
 congr 1
 funext x
 exact zg0 x r
theorem zet {K:PySem.W.Frag}{c p D:Addr}{row:List Int}{cs:List Nat}{H:Hp}{Q:VK}(hD:H D=none)(hc:H c=some (.lst (colV cs)))(hp:H p=some (.tup (row.map V.int)))(sub:∀ i∈cs,i<row.length)(l50:cs.length<=50)
  (k:∀ H',Same H H'->H' D=some (.lst ((pick cs row).map V.int))->Q (.ref D) H') : zcD (Itl K c) (zas 0) tYes (tOp (rIxT K) (tVar 1) (tVar 0)) D Q [none,some (.ref p)] (upd H D (.lst [])):=by
 refine zaK (K:=K) (a:=c) (xs:=colV cs) (fun j _ σ H4=>∃ (o:Option V),σ=[o,some (.ref p)]/\Same H H4/\H4 D=some (.lst ((pick (cs.take j) row).map V.int)))
  ⟨none,rfl,(Same.refl H).upd hD,zaa⟩ (fun j _ σ H4 _ ⟨_,_,sm,_⟩=>SqL.of (sm _ _ hc)) ?_ ?_
 ·rintro j y _ σ H4 hy ⟨o,rfl,sm,h4⟩
  obtain ⟨i,hi,rfl⟩:=zjh hy
  have hlt:=sub i (gM hi)
  have hj:=gE hi
  refine ⟨_,rfl,_,rfl,ixT (sm _ _ hp) (show atI (row.map V.int) (i:Int)=some (.int (row.getD i 0)) from za1 (by simp [hlt])) ⟨_,h4,zah (by rw [List.length_map,zaW,List.length_take];lia),[],_,rfl,sm.upd hD,?_⟩⟩
  rw [zaa,take_snoc hi]
  unfold pick
  rw [List.map_append,List.map_append]
  rfl
 ·rintro _ σ H4 ⟨o,rfl,sm,h4⟩
  have e:(colV cs).length=cs.length:=List.length_map ..
  rw [e,List.take_length] at h4
  exact k H4 sm h4
section
variable {P:Program}{w:World}{K:PySem.W.Frag}{mg:Str->Option Value}{base:Heap}
def zbH:Sp:=fun vs H Q _=>∃ (p c:Addr) (row:List Int) (cs:List Nat),vs=[.ref p,.ref c]/\H p=some (.tup (row.map V.int))/\H c=some (.lst (colV cs))/\(∀ i∈cs,i<row.length)/\cs.length<=50 /\
 ∀ (t:Addr) (H':Hp),Same H H'->H t=none->H' t=some (.tup ((pick cs row).map V.int))->Q (.ref t) H'
theorem zg6:FnScope ["row","columns"] ["row","columns"] (zad zek):=by walk_at "sc"
theorem zhk {f:Addr}{fd:FuncData}(F:Fun K "cells_in" "cells_in" zek f fd)(B:Blts mg) : FnOk P w K mg base CX0 1 f fd ["row","columns"] zbH:=by
 refine F.okJ zg6 (fun vs H Q E h=>?_) (fun cdv A outer s H vs Q E hr h=>?_)
 ·obtain ⟨_,_,_,_,rfl,_⟩:=h
  rfl
 ·obtain ⟨p,c,row,cs,rfl,hp,hc,sub,l50,k⟩:=h
  have nd:(["column","row"] : List Str).Nodup:=by decide +kernel
  refine ⟨_,(zac (zaj (e_ct zcE B.tuple PyProof.Rows.boot_tuple (a1c (zaP (Nc:=["column","row"]) (js:=[none,some 0]) (g:=(zas 0)) (tt:=tYes) (te:=(tOp (rIxT K) (tVar 1) (tVar 0)))
   (zat rfl rfl rfl rfl (fun x c h=>by (obtain ⟨rfl,rfl⟩ : x=_/\c=_:=(by simpa using h));rfl) rfl rfl rfl) (zaz (e_v 1))
   (fun pins C s3 H3 fp=>⟨(g_n 0 nd),.inl ⟨rfl,rfl⟩,(e_ix zag (e_v 1) (e_v 0))⟩)))))),?_⟩
  refine ⟨_,rfl,c,rfl,⟨_,SqL.of hc⟩,fun D hD=>?_⟩
  refine zaK (K:=K) (a:=c) (xs:=colV cs) (fun j _ σ H4=>∃ (o:Option V),σ=[o,some (.ref p)]/\Same H H4/\H4 D=some (.lst ((pick (cs.take j) row).map V.int)))
   ⟨none,rfl,(Same.refl H).upd hD,zaa⟩ (fun j _ σ H4 _ ⟨_,_,sm,_⟩=>SqL.of (sm _ _ hc)) ?_ ?_
  ·rintro j y _ σ H4 hy ⟨o,rfl,sm,h4⟩
   obtain ⟨i,hi,rfl⟩:=zjh hy
   have hlt:=sub i (gM hi)
   have hj:=gE hi
   refine ⟨_,rfl,_,rfl,ixT (sm _ _ hp) (show atI (row.map V.int) (i:Int)=some (.int (row.getD i 0)) from za1 (by simp [hlt])) ⟨_,h4,zah (by rw [List.length_map,zaW,List.length_take];lia),[],_,rfl,sm.upd hD,?_⟩⟩
   rw [zaa,take_snoc hi]
   unfold pick
   rw [List.map_append,List.map_append]
   rfl
  ·rintro _ σ H4 ⟨o,rfl,sm,h4⟩
   have e:(colV cs).length=cs.length:=List.length_map ..
   rw [e,List.take_length] at h4
   exact ⟨D,_,rfl,.inl ⟨SqL.of h4,fun t ht=>k t _ (sm.trans ((Same.refl H4).upd ht)) (sm.free ht) zaa⟩⟩
end
end Prf
namespace L2
open PySem PySem.Spec PyProof.Rows
section
variable {X:Cx}{pins:List (Addr×Obj)}{σ:St}{H:Hp}{s:Shared}
def znl (K:W.Frag) : List V->Hp->VK->Prop:=fun vs H Q=>∃ l ns,vs=[.ref l]/\SqL K H l (List.map V.int ns)/\ns≠[]/\∀ M,M∈ns->(∀ a∈ns,M<=a)->Q (.int M) H
def znM (K:W.Frag) : List V->Hp->VK->Prop:=fun vs H Q=>∃ l ns,vs=[.ref l]/\SqL K H l (List.map V.int ns)/\ns≠[]/\∀ M,M∈ns->(∀ a∈ns,a<=M)->Q (.int M) H
theorem zfO (hc:X.calm=true) : zb4 X (.builtin "min") (znl X.K):=by
 intro pins s σ H vs us Q I r ⟨l,ns,e,hl,ne,q⟩
 subst e
 obtain ⟨u,rfl,ru⟩:=Vals.one r
 cases ru
 obtain ⟨its,rv,pl,_⟩:=I.list hl
 have hi:=zci rv
 have hd:X.A.handled=none:=I.ok.hd hc
 obtain ⟨xs,hx⟩:=hi.allInts.items
 have hns:ns=xs.toList.map (·.1):=by rw [<- hi.numsOf,<- nums_intItems,<- hx]
 have hsz:0<xs.size:=by
  have h3:=List.length_pos_iff.mpr ne
  rw [hns,List.length_map,Array.length_toList] at h3;exact h3
 have hL:s.heap.IsList l (intItems xs):=by rw [<- hx];exact pl.isList
 refine min_intList hd hL hsz fun v h' tk hv hk=>?_
 obtain ⟨t,rfl⟩:=intItems_at hv
 obtain ⟨h1,h2⟩:=argBest_lt (numAt xs) (xs.size-1)
 refine ⟨.int _,H,I.kept hk,⟨t,rfl⟩,q _ ?_ fun a ha=>?_⟩
 ·rw [hns,numAt_eq];exact getD_mem (by rw [List.length_map,Array.length_toList];lia)
 ·rw [hns] at ha
  obtain ⟨j,hj,rfl⟩:=mem_getD ha
  rw [List.length_map,Array.length_toList] at hj
  rw [<- numAt_eq];exact h2 j (by lia)
theorem zfu (hc:X.calm=true) : zb4 X (.builtin "max") (znM X.K):=by
 intro pins s σ H vs us Q I r ⟨l,ns,e,hl,ne,q⟩
 subst e
 obtain ⟨u,rfl,ru⟩:=Vals.one r
 cases ru
 obtain ⟨its,rv,pl,_⟩:=I.list hl
 have hi:=zci rv
 have hd:X.A.handled=none:=I.ok.hd hc
 obtain ⟨xs,hx⟩:=hi.allInts.items
 have hns:ns=xs.toList.map (·.1):=by rw [<- hi.numsOf,<- nums_intItems,<- hx]
 have hsz:0<xs.size:=by
  have h3:=List.length_pos_iff.mpr ne
  rw [hns,List.length_map,Array.length_toList] at h3;exact h3
 have hL:s.heap.IsList l (intItems xs):=by rw [<- hx];exact pl.isList
 refine max_intList hd hL hsz fun v h' tk hv hk=>?_
 obtain ⟨t,rfl⟩:=intItems_at hv
 obtain ⟨h1,h2⟩:=argBest_gt (numAt xs) (xs.size-1)
 refine ⟨.int _,H,I.kept hk,⟨t,rfl⟩,q _ ?_ fun a ha=>?_⟩
 ·rw [hns,numAt_eq];exact getD_mem (by rw [List.length_map,Array.length_toList];lia)
 ·rw [hns] at ha
  obtain ⟨j,hj,rfl⟩:=mem_getD ha
  rw [List.length_map,Array.length_toList] at hj
  rw [<- numAt_eq];exact h2 j (by lia)
theorem znr (hc:X.calm=true:=by rfl) : JC X (.builtin "min") (znl X.K):=⟨zfO hc⟩
theorem zm4 (hc:X.calm=true:=by rfl) : JC X (.builtin "max") (znM X.K):=⟨zfu hc⟩
end
end L2
namespace Prf
open PySem L2 Wr
theorem zbf {H:Hp}{p:Addr}{o:HO}(nt:∀ xs,H p≠some (.tup xs)){v:V}{r:List Int}(h:RowAt H v r) : RowAt (upd H p o) v r:=by
 obtain ⟨c,e1,e2⟩:=h
 exact ⟨c,e1,zc6 nt _ _ e2⟩
theorem zjf {p:List Int->Bool}{rs:List (List Int)}{i:Nat}{r:List Int}(h:rs[i]?=some r) : (rs.take (i+1)).filter p=(rs.take i).filter p++if p r=true then [r] else []:=by
 rw [take_snoc h,List.filter_append]
 congr 1
 by_cases e:p r=true<;>simp [e]
section
variable {K:PySem.W.Frag}{l D:Addr}{xs:List V}{rs:List (List Int)}{H:Hp}{Q:VK}{τ:St}
theorem zcb {tt:TT}{f:List Int->Bool}(hD:H D=none)(hl:H l=some (.lst xs))(pr:Paired (RowAt H) xs rs)(l9:rs.length<=900)
  (ht:∀ (H1:Hp) (v:V) (r:List Int) (R:Bool->Hp->Prop),Same H H1->RowAt H1 v r->r∈rs->(∀ H2,Same H1 H2->R (f r) H2)->tt (some v::τ) H1 R)
  (k:∀ (H':Hp) (us:List V),Same H H'->H' D=some (.lst us)->Paired (RowAt H') us (rs.filter f)->Q (.ref D) H') :
  zcD (Itl K l) (zas 0) tt (tVar 0) D Q (none::τ) (upd H D (.lst [])):=by
 have lx:xs.length=rs.length:=Paired.length pr
 refine zaK (K:=K) (a:=l) (xs:=xs) (fun j _ σ H4=>∃ (o4:Option V) (us:List V),σ=o4::τ/\Same H H4/\H4 D=some (.lst us)/\Paired (RowAt H4) us ((rs.take j).filter f))
  ⟨none,[],rfl,(Same.refl H).upd hD,zaa,.nil⟩ (fun j _ σ H4 _ ⟨_,_,_,sm4,_⟩=>SqL.of (sm4 _ _ hl)) ?_ ?_
 ·rintro j y _ σ H4 hy ⟨o4,us,rfl,sm,h4,pu⟩
  obtain ⟨r,hr1,u,rfl,hu⟩:=zan pr hy
  have hj:=gE hr1
  have e:=zjf (p:=f) hr1
  refine ht H4 _ r _ sm ⟨u,rfl,sm _ _ hu⟩ (gM hr1) fun H5 s5=>?_
  have h5:=s5 _ _ h4
  have s45:=sm.trans s5
  cases z:f r with
  | false =>
   rw [z,if_neg (by decide),List.append_nil] at e
   exact iteF ⟨[],_,us,rfl,s45,h5,by rw [e];exact rS s5 pu⟩
  | true =>
   rw [z,if_pos rfl] at e
   have nt:=zbW h5
   have lu:us.length=((rs.take j).filter f).length:=Paired.length pu
   have lu2:=List.length_filter_le f (rs.take j)
   rw [List.length_take] at lu2
   refine iteT ⟨_,rfl,us,h5,zah (by lia),[],_,us++[.ref u],rfl,s45.upd hD,zaa,?_⟩
   rw [e]
   exact zak (R:=RowAt (upd H5 D (.lst (us++[.ref u])))) (zbf nt ⟨u,rfl,s45 _ _ hu⟩) (Paired.mapP pu fun _ _ z=>zbf nt (RowAt.same s5 z))
 ·rintro _ σ H4 ⟨o4,us,rfl,sm,h4,pu⟩
  rw [lx,List.take_length] at pu
  exact k H4 us sm h4 pu
theorem zdT {te:TE}{f:List Int->List Int}(hD:H D=none)(hl:H l=some (.lst xs))(pr:Paired (RowAt H) xs rs)(l9:rs.length<=900)
  (ht:∀ (H1:Hp) (v:V) (r:List Int) (R:V->Hp->Prop),Same H H1->RowAt H1 v r->r∈rs->(∀ u H2,Same H1 H2->H2 u=some (.tup ((f r).map V.int))->R (.ref u) H2)->te (some v::τ) H1 R)
  (k:∀ (H':Hp) (us:List V),Same H H'->H' D=some (.lst us)->Paired (RowAt H') us (rs.map f)->Q (.ref D) H') :
  zcD (Itl K l) (zas 0) tYes te D Q (none::τ) (upd H D (.lst [])):=by
 have lx:xs.length=rs.length:=Paired.length pr
 refine zaK (K:=K) (a:=l) (xs:=xs) (fun j _ σ H4=>∃ (o4:Option V) (us:List V),σ=o4::τ/\Same H H4/\H4 D=some (.lst us)/\Paired (RowAt H4) us ((rs.take j).map f))
  ⟨none,[],rfl,(Same.refl H).upd hD,zaa,.nil⟩ (fun j _ σ H4 _ ⟨_,_,_,sm4,_⟩=>SqL.of (sm4 _ _ hl)) ?_ ?_
 ·rintro j y _ σ H4 hy ⟨o4,us,rfl,sm,h4,pu⟩
  obtain ⟨r,hr1,u,rfl,hu⟩:=zan pr hy
  have hj:=gE hr1
  have lu:us.length=((rs.take j).map f).length:=Paired.length pu
  rw [List.length_map,List.length_take] at lu
  refine ht H4 _ r _ sm ⟨u,rfl,sm _ _ hu⟩ (gM hr1) fun e H5 s5 h5=>?_
  have h4':=s5 _ _ h4
  have nt:=zbW h4'
  refine ⟨_,h4',zah (by lia),[],_,us++[.ref e],rfl,(sm.trans s5).upd hD,zaa,?_⟩
  rw [take_snoc hr1,List.map_append]
  exact zak (R:=RowAt (upd H5 D (.lst (us++[.ref e])))) (zbf nt ⟨e,rfl,h5⟩) (Paired.mapP pu fun _ _ z=>zbf nt (RowAt.same s5 z))
 ·rintro _ σ H4 ⟨o4,us,rfl,sm,h4,pu⟩
  rw [lx,List.take_length] at pu
  exact k H4 us sm h4 pu
theorem zhU {t:Addr}{r:List Int}(hD:H D=none)(hl:H l=some (.lst xs))(pr:Paired (RowAt H) xs rs)(l9:rs.length<=900)(ht:H t=some (.tup (r.map V.int)))(nr:r≠[]/\r.length<=50)(nt:∀ q∈rs,q≠[]/\q.length<=50)
  (k:∀ (H':Hp) (us:List V),Same H H'->H' D=some (.lst us)->Paired (RowAt H') us (rs.map (r++·))->Q (.ref D) H') :
  zcD (Itl K l) (zas 0) tYes (tOp (ziq K) (tVar 1) (tVar 0)) D Q [none,some (.ref t)] (upd H D (.lst [])):=by
 refine zdT hD hl pr l9 (fun H1 v q R s1 ⟨u,e,hu⟩ hq kk=>?_) k
 subst e
 have nq:=nt q hq
 refine ⟨_,rfl,_,rfl,t,u,_,_,rfl,rfl,SqT.of (s1 _ _ ht),SqT.of hu,by rw [List.length_map,List.length_map,sizeLine_eq];lia,fun z=>absurd (List.map_eq_nil_iff.mp z) nr.1,fun _ z=>absurd (List.map_eq_nil_iff.mp z) nq.1,fun _ _ v hv=>?_⟩
 exact kk v _ ((Same.refl H1).upd hv) (by rw [zaa,List.map_append])
end
section
variable {P:Program}{w:World}{K:PySem.W.Frag}{mg:Str->Option Value}{base:Heap}
def zck (rs ts:List (List Int)) : List (List Int):=rs.flatMap fun r=>ts.map (r++·)
theorem ze9 {rs ts:List (List Int)}{i:Nat}{r:List Int}(h:rs[i]?=some r) : zck (rs.take (i+1)) ts=zck (rs.take i) ts++ts.map (r++·):=by
 unfold zck
 rw [take_snoc h,List.flatMap_append]
 simp
theorem zc7 (rs ts:List (List Int)) : (zck rs ts).length=rs.length*ts.length:=by
 unfold zck
 induction rs with
 | nil=>simp
 | cons r rs ih=>rw [List.flatMap_cons,List.length_append,ih,List.length_map,List.length_cons,Nat.succ_mul,Nat.add_comm]
def zbw:Sp:=fun vs H Q _=>∃ (a b:Addr) (xs ys:List V) (rs ts:List (List Int)),vs=[.ref a,.ref b]/\H a=some (.lst xs)/\H b=some (.lst ys)/\Paired (RowAt H) xs rs/\Paired (RowAt H) ys ts/\(∀ r∈rs,r≠[]/\r.length<=50)/\(∀ r∈ts,r≠[]/\r.length<=50)/\rs.length<=20/\ts.length<=20 /\
 ∀ (p:Addr) (H':Hp) (zs:List V),Same H H'->H p=none->H' p=some (.lst zs)->Paired (RowAt H') zs (zck rs ts)->Q (.ref p) H'
theorem zbx:FnScope ["one","other","rows","row"] ["one","other"] (zad zbu):=by walk_at "sc"
theorem zdy {f:Addr}{fd:FuncData}(F:Fun K "each_with_each" "each_with_each" zbu f fd) : FnOk P w K mg base CX0 1 f fd ["one","other"] zbw:=by
 refine F.okJ zbx (fun vs H Q E h=>?_) (fun cdv A outer s H vs Q E hr h=>?_)
 ·obtain ⟨_,_,_,_,_,_,rfl,_⟩:=h
  rfl
 ·obtain ⟨a,b,xs,ys,rs,ts,rfl,ha,hb,pr,pt,nr,nt,l1,l2,k⟩:=h
  have nd:=zbx.nd
  have nd2:(["behind","row"] : List Str).Nodup:=by decide +kernel
  refine ⟨_,(zab (zar 2 nd (zbC a0))
   (zab (zdI (zaz (e_v 0)) (g_n 3 nd)
    (zac (znG (e_v 2) (a1c (zaP (Nc:=["behind","row"]) (js:=[none,some 3]) (g:=(zas 0)) (tt:=tYes) (te:=(tOp (ziq K) (tVar 1) (tVar 0)))
   (zat rfl rfl rfl rfl (fun x c h=>by (obtain ⟨rfl,rfl⟩ : x=_/\c=_:=(by simpa using h));rfl) rfl rfl rfl) (zaz (e_v 1))
   (fun pins C s3 H3 fp=>⟨(g_n 0 nd2),.inl ⟨rfl,rfl⟩,(e_op zhF (e_v 1) (e_v 0))⟩))))))
   (zac (zaj (e_v 2))))),?_⟩
  refine ⟨Nat.zero_le _,fun p hp=>?_⟩
  obtain ⟨H0,e,s0,u0⟩:=fresh (.lst []) hp;rw [e];clear e
  have ly:ys.length=ts.length:=Paired.length pt
  have lx:xs.length=rs.length:=Paired.length pr
  refine ⟨_,rfl,a,rfl,⟨xs,SqL.of (s0 _ _ ha)⟩,zbl (K:=K) (a:=a) (xs:=xs) (fun i σ H'=>∃ (o:Option V) (zs:List V),σ=[some (.ref a),some (.ref b),some (.ref p),o]/\Same H H'/\H' p=some (.lst zs)/\Paired (RowAt H') zs (zck (rs.take i) ts))
   ⟨none,[],rfl,s0,u0,.nil⟩ (fun i σ H' _ ⟨_,_,_,sm,_⟩=>SqL.of (sm _ _ ha)) ?_ ?_⟩
  ·rintro i x σ H2 hx ⟨o,zs,rfl,sm,h2,pz⟩
   obtain ⟨r,hr1,t,rfl,ht⟩:=zan pr hx
   have hi:i<rs.length:=gE hr1
   have lz:zs.length=(rs.take i).length*ts.length:=by rw [Paired.length pz,zc7]
   have lz2:zs.length<=400:=by
    rw [lz,List.length_take]
    exact Nat.le_trans (Nat.mul_le_mul (Nat.le_trans (Nat.min_le_right _ _) l1) l2) (by decide)
   refine ⟨_,rfl,.inl ⟨rfl,_,SqL.of h2⟩,_,rfl,b,rfl,⟨_,SqL.of (sm _ _ hb)⟩,fun D hD=>?_⟩
   refine zhU hD (sm _ _ hb) (rS sm pt) (by lia) (sm _ _ ht) (nr r (gM hr1)) nt fun H4 ws sm4 h4 pw=>?_
   ·have lw:ws.length=ts.length:=by rw [Paired.length pw,List.length_map]
    have h2':=sm4 _ _ h2
    have ntp:=zbW h2'
    refine ⟨p,D,zs,ws,rfl,rfl,h2',h4,by rw [sizeLine_eq];lia,_,zs++ws,rfl,(sm.trans sm4).upd hp,zaa,?_⟩
    rw [ze9 hr1]
    exact zct (Paired.mapP pz fun _ _ ⟨c,e1,e2⟩=>⟨c,e1,zc6 ntp _ _ (sm4 _ _ e2)⟩) (Paired.mapP pw fun _ _ ⟨c,e1,e2⟩=>⟨c,e1,zc6 ntp _ _ e2⟩)
  ·rintro σ H2 ⟨o,zs,rfl,sm,h2,pz⟩
   rw [lx,List.take_length] at pz
   exact ⟨_,rfl,k p H2 zs sm hp h2 pz⟩
end
inductive Sm where | count | sum (i:Nat) | least (i:Nat) | greatest (i:Nat)
def Sm.ok:Sm->Nat->Prop
 | .count,_=>True
 | .sum i,n=>i<n
 | .least i,n=>i<n
 | .greatest i,n=>i<n
def SmAt (H:Hp) : V->Sm->Prop
 | v,.count=>∃ t,v=.ref t/\H t=some (.tup [.str "count"])
 | v,.sum i=>∃ t,v=.ref t/\H t=some (.tup [.str "sum", .int (i:Int)])
 | v,.least i=>∃ t,v=.ref t/\H t=some (.tup [.str "least", .int (i:Int)])
 | v,.greatest i=>∃ t,v=.ref t/\H t=some (.tup [.str "greatest", .int (i:Int)])
theorem SmAt.same {H H':Hp}(e:Same H H'){a:Sm}{v:V}(h:SmAt H v a) : SmAt H' v a:=by
 cases a<;>(obtain ⟨t,h1,h2⟩:=h;exact ⟨t,h1,e _ _ h2⟩)
def zbR (i:Nat)(rs:List (List Int)) : List Int:=rs.map fun r=>r.getD i 0
def Sm.is (rs:List (List Int)) : Sm->Int->Prop
 | .count,m=>m=rs.length
 | .sum i,m=>m=(zbR i rs).sum
 | .least i,m=>m∈zbR i rs/\∀ a∈zbR i rs,m<=a
 | .greatest i,m=>m∈zbR i rs/\∀ a∈zbR i rs,a<=m
theorem Sm.uniq {rs:List (List Int)}{a:Sm}{m m':Int}(h:a.is rs m)(h':a.is rs m') : m=m':=by
 cases a with
 | count=>exact h.trans h'.symm
 | sum i=>exact h.trans h'.symm
 | least i=>exact Int.le_antisymm (h.2 _ h'.1) (h'.2 _ h.1)
 | greatest i=>exact Int.le_antisymm (h'.2 _ h.1) (h.2 _ h'.1)
section
variable {P:Program}{w:World}{K:PySem.W.Frag}{mg:Str->Option Value}{base:Heap}
def zel:Sp:=fun vs H Q _=>∃ (v:V) (l:Addr) (a:Sm) (xs:List V) (rs:List (List Int)),vs=[v,.ref l]/\SmAt H v a/\H l=some (.lst xs)/\Paired (RowAt H) xs rs/\(∀ r∈rs,a.ok r.length)/\rs≠[]/\rs.length<=900 /\
 ∀ (m:Int) (H':Hp),Same H H'->a.is rs m->Q (.int m) H'
theorem zgH:FnScope ["each","rows","cells"] ["each","rows"] (zad zgu):=by walk_at "sc"
theorem zi9 {f:Addr}{fd:FuncData}(F:Fun K "sum_of" "sum_of" zgu f fd)(B:Blts mg) : FnOk P w K mg base CX0 1 f fd ["each","rows"] zel:=by
 refine F.okJ zgH (fun vs H Q E h=>?_) (fun cdv A outer s H vs Q E hr h=>?_)
 ·obtain ⟨_,_,_,_,_,rfl,_⟩:=h
  rfl
 ·obtain ⟨v,l,a,xs,rs,rfl,hv,hl,pr,ok,ne,l9,k⟩:=h
  have nd:=zgH.nd
  have nd2:(["row","each"] : List Str).Nodup:=by decide +kernel
  have lx:xs.length=rs.length:=Paired.length pr
  refine ⟨_,(zab (s_if (zap o_eq (e_ix zag (e_v 0) e_i) e_s) (zac (zaj (e_cb zcd B.len PySem.boot_len (a1 (e_v 1))))) zaq)
   (zab (zgD 2 nd (Nc:=["row","each"]) (js:=[none,some 0]) (g:=(zas 0)) (tt:=tYes) (te:=(tOp (rIxT K) (tVar 0) (tOp (rIxT K) (tVar 1) (tC (.int 1)))))
   (zat rfl rfl rfl rfl (fun x c h=>by (obtain ⟨rfl,rfl⟩ : x=_/\c=_:=(by simpa using h));rfl) rfl rfl rfl) (zaz (e_v 1))
   (fun pins C s3 H3 fp=>⟨(g_n 0 nd2),.inl ⟨rfl,rfl⟩,(e_ix zag (e_v 0) (e_ix zag (e_v 1) e_i))⟩))
   (zab (s_if (zap o_eq (e_ix zag (e_v 0) e_i) e_s) (zac (zaj (e_cb zn1 B.sum PyProof.Rows.boot_sum (a1 (e_v 2))))) zaq)
   (zab (s_if (zap o_eq (e_ix zag (e_v 0) e_i) e_s) (zac (zaj (e_cb znr B.min PyProof.Rows.boot_min (a1 (e_v 2))))) zaq)
   (zac (zaj (e_cb zm4 B.max PyProof.Rows.boot_max (a1 (e_v 2))))))))),?_⟩
  have col:∀ (t:Addr) (nm:Str) (i:Nat) (G:St->Hp->Prop),H t=some (.tup [.str nm,.int (i:Int)])->(∀ r∈rs,i<r.length)->(∀ (D:Addr) (H':Hp),Same H H'->H' D=some (.lst ((zbR i rs).map V.int))->G [some (.ref t),some (.ref l),some (.ref D)] H') ->
    tAsg (zd3 [none,some 0] (zhg K (tVar 1)) (zas 0) tYes (tOp (rIxT K) (tVar 0) (tOp (rIxT K) (tVar 1) (tC (.int 1))))) (zas 2) { nx:=G,rt:=Q } [some (.ref t),some (.ref l),none] H:=by
   intro t nm i G ht hi g
   refine ⟨_,rfl,l,rfl,⟨_,SqL.of hl⟩,fun D hD=>?_⟩
   refine zaK (K:=K) (a:=l) (xs:=xs) (fun j _ σ H4=>∃ (o:Option V),σ=[o,some (.ref t)]/\Same H H4/\H4 D=some (.lst ((zbR i (rs.take j)).map V.int)))
    ⟨none,rfl,(Same.refl H).upd hD,zaa⟩ (fun j _ σ H4 _ ⟨_,_,sm,_⟩=>SqL.of (sm _ _ hl)) ?_ ?_
   ·rintro j y _ σ H4 hy ⟨o,rfl,sm,h4⟩
    obtain ⟨r,hr1,u,rfl,hu⟩:=zan pr hy
    have hj:=gE hr1
    have hlt:=hi r (gM hr1)
    refine ⟨_,rfl,_,rfl,ixTc (sm _ _ ht) rfl (ixT (sm _ _ hu) (show atI (r.map V.int) (i:Int)=some (.int (r.getD i 0)) from za1 (by simp [hlt])) ⟨_,h4,zah (by rw [List.length_map];unfold zbR;rw [List.length_map,List.length_take];lia),[],_,rfl,sm.upd hD,?_⟩)⟩
    rw [zaa,take_snoc hr1]
    unfold zbR
    rw [List.map_append,List.map_append]
    rfl
   ·rintro _ σ H4 ⟨o,rfl,sm,h4⟩
    rw [lx,List.take_length] at h4
    exact g D H4 sm h4
  have cne:∀ i,zbR i rs≠[]:=fun i z=>ne (List.map_eq_nil_iff.mp z)
  cases a with
  | count =>
   obtain ⟨t,rfl,ht⟩:=hv
   refine ⟨_,rfl,ixTc ht rfl ⟨rfl,_,rfl,zaF ?_⟩⟩
   exact ⟨_,rfl,l,xs,rfl,.inl (SqL.of hl),k _ H (Same.refl H) (by rw [lx];rfl)⟩
  | sum i =>
   obtain ⟨t,rfl,ht⟩:=hv
   refine ⟨_,rfl,ixTc ht rfl ⟨rfl,_,rfl,iteSF (by decide +kernel) ?_⟩⟩
   refine col t _ i _ ht ok fun D H' sm hD=>?_
   refine ⟨_,rfl,ixTc (sm _ _ ht) rfl ⟨rfl,_,rfl,zaF ?_⟩⟩
   exact ⟨_,rfl,D,_,rfl,SqL.of hD,k _ H' sm rfl⟩
  | least i =>
   obtain ⟨t,rfl,ht⟩:=hv
   refine ⟨_,rfl,ixTc ht rfl ⟨rfl,_,rfl,iteSF (by decide +kernel) ?_⟩⟩
   refine col t _ i _ ht ok fun D H' sm hD=>?_
   refine ⟨_,rfl,ixTc (sm _ _ ht) rfl ⟨rfl,_,rfl,iteSF (by decide +kernel) ?_⟩⟩
   refine ⟨_,rfl,ixTc (sm _ _ ht) rfl ⟨rfl,_,rfl,zaF ?_⟩⟩
   exact ⟨_,rfl,D,_,rfl,SqL.of hD,cne i,fun M h1 h2=>k _ H' sm ⟨h1,h2⟩⟩
  | greatest i =>
   obtain ⟨t,rfl,ht⟩:=hv
   refine ⟨_,rfl,ixTc ht rfl ⟨rfl,_,rfl,iteSF (by decide +kernel) ?_⟩⟩
   refine col t _ i _ ht ok fun D H' sm hD=>?_
   refine ⟨_,rfl,ixTc (sm _ _ ht) rfl ⟨rfl,_,rfl,iteSF (by decide +kernel) ?_⟩⟩
   refine ⟨_,rfl,ixTc (sm _ _ ht) rfl ⟨rfl,_,rfl,iteSF (by decide +kernel) ?_⟩⟩
   exact ⟨_,rfl,D,_,rfl,SqL.of hD,cne i,fun M h1 h2=>k _ H' sm ⟨h1,h2⟩⟩
end
section
variable {P:Program}{w:World}{K:PySem.W.Frag}{mg:Str->Option Value}{base:Heap}
def zdA:Sp:=fun vs H Q _=>∃ (m l:Addr) (ms xs:List V) (ag:List Sm) (rs:List (List Int)),vs=[.ref m,.ref l]/\H m=some (.lst ms)/\Paired (SmAt H) ms ag/\H l=some (.lst xs)/\Paired (RowAt H) xs rs/\(∀ a∈ag,∀ r∈rs,a.ok r.length)/\rs≠[]/\rs.length<=900/\ag.length<=50 /\
 ∀ (t:Addr) (H':Hp) (ns:List Int),Same H H'->H t=none->H' t=some (.tup (ns.map V.int))->Paired (fun m a=>Sm.is rs a m) ns ag->Q (.ref t) H'
theorem zii:FnScope ["sums","rows"] ["sums","rows"] (zad ze2):=by walk_at "sc"
theorem zix {f:Addr}{fd:FuncData}(F:Fun K "sums_of" "sums_of" ze2 f fd)(B:Blts mg)(F_sum_of:FnP P w K mg base 1 "sum_of" ["each","rows"] zel) : FnOk P w K mg base CX0 2 f fd ["sums","rows"] zdA:=by
 refine F.okJ zii (fun vs H Q E h=>?_) (fun cdv A outer s H vs Q E hr h=>?_)
 ·obtain ⟨_,_,_,_,_,_,rfl,_⟩:=h
  rfl
 ·obtain ⟨m,l,ms,xs,ag,rs,rfl,hm,pm,hl,pr,ok,ne,l9,l5,k⟩:=h
  have nd:(["each","rows"] : List Str).Nodup:=by decide +kernel
  have lm:ms.length=ag.length:=Paired.length pm
  refine ⟨_,(zac (zaj (e_ct zcE B.tuple PyProof.Rows.boot_tuple (a1c (zaP (Nc:=["each","rows"]) (js:=[none,some 1]) (g:=(zas 0)) (tt:=tYes) (te:=(zbp zel [] E0 (zaf (tVar 0) (zaf (tVar 1) tNil))))
   (zat rfl rfl rfl rfl (fun x c h=>by (obtain ⟨rfl,rfl⟩ : x=_/\c=_:=(by simpa using h));rfl) rfl rfl rfl) (zaz (e_v 0))
   (fun pins C s3 H3 fp=>⟨(g_n 0 nd),.inl ⟨rfl,rfl⟩,(e_fn F_sum_of hr (ac (e_v 0) (a1 (e_v 1))))⟩)))))),?_⟩
  refine ⟨_,rfl,m,rfl,⟨_,SqL.of hm⟩,fun D hD=>?_⟩
  refine zaK (K:=K) (a:=m) (xs:=ms) (fun j _ σ H4=>∃ (o:Option V) (ns:List Int),σ=[o,some (.ref l)]/\Same H H4/\H4 D=some (.lst (ns.map V.int))/\Paired (fun m a=>Sm.is rs a m) ns (ag.take j))
   ⟨none,[],rfl,(Same.refl H).upd hD,zaa,.nil⟩ (fun j _ σ H4 _ ⟨_,_,_,sm,_⟩=>SqL.of (sm _ _ hm)) ?_ ?_
  ·rintro j y _ σ H4 hy ⟨o,ns,rfl,sm,h4,pn⟩
   obtain ⟨a,ha1,ha⟩:=zan pm hy
   have hj:=gE ha1
   have ln:ns.length=(ag.take j).length:=Paired.length pn
   refine ⟨_,rfl,_,rfl,y,l,a,xs,rs,rfl,ha.same sm,sm _ _ hl,rS sm pr,ok a (gM ha1),ne,l9,fun v H5 s5 hv=>?_⟩
   refine ⟨_,s5 _ _ h4,zah (by rw [List.length_map,ln,List.length_take];lia),[],_,ns++[v],rfl,(sm.trans s5).upd hD,?_,?_⟩
   ·rw [zaa,List.map_append];rfl
   ·rw [take_snoc ha1]
    exact zak (R:=fun m a=>Sm.is rs a m) hv pn
  ·rintro _ σ H4 ⟨o,ns,rfl,sm,h4,pn⟩
   rw [lm,List.take_length] at pn
   exact ⟨D,_,rfl,.inl ⟨SqL.of h4,fun t ht=>k t _ ns (sm.trans ((Same.refl H4).upd ht)) (sm.free ht) zaa pn⟩⟩
end
inductive Op2 where | join | union | common | less
def Op2.nm:Op2->Str
 | .join => "join"
 | .union => "union"
 | .common => "common"
 | .less => "less"
inductive Qn where
 | table (z:Str) | pick (c:Cond) (q:Qn) | columns (cs:List Nat) (q:Qn) | group (cs:List Nat) (ag:List Sm) (q:Qn) | two (o:Op2) (a b:Qn)
def Qn.deep:Qn->Nat
 | .table _=>0
 | .pick _ q=>q.deep+1
 | .columns _ q=>q.deep+1
 | .group _ _ q=>q.deep+1
 | .two _ a b=>max a.deep b.deep+1
def QAt (H:Hp) : V->Qn->Prop
 | v,.table z=>∃ t,v=.ref t/\H t=some (.tup [.str "table", .str z])
 | v,.pick c q=>∃ t vc vq,v=.ref t/\H t=some (.tup [.str "pick", vc,vq])/\CondAt H vc c/\QAt H vq q
 | v,.columns cs q=>∃ t l vq,v=.ref t/\H t=some (.tup [.str "columns", .ref l,vq])/\H l=some (.lst (colV cs))/\QAt H vq q
 | v,.group cs ag q=>∃ t l m ms vq,v=.ref t/\H t=some (.tup [.str "group", .ref l,.ref m,vq])/\H l=some (.lst (colV cs))/\H m=some (.lst ms)/\Paired (SmAt H) ms ag/\QAt H vq q
 | v,.two o a b=>∃ t va vb,v=.ref t/\H t=some (.tup [.str o.nm,va,vb])/\QAt H va a/\QAt H vb b
theorem QAt.same {H H':Hp}(e:Same H H') : ∀ {q:Qn} {v:V},QAt H v q->QAt H' v q
 | .table z,_,⟨t,h1,h2⟩=>⟨t,h1,e _ _ h2⟩
 | .pick c q,_,⟨t,vc,vq,h1,h2,h3,h4⟩=>⟨t,vc,vq,h1,e _ _ h2,h3.same e,QAt.same e h4⟩
 | .columns cs q,_,⟨t,l,vq,h1,h2,h3,h4⟩=>⟨t,l,vq,h1,e _ _ h2,e _ _ h3,QAt.same e h4⟩
 | .group cs ag q,_,⟨t,l,m,ms,vq,h1,h2,h3,h4,h5,h6⟩=>⟨t,l,m,ms,vq,h1,e _ _ h2,e _ _ h3,e _ _ h4,Paired.mapP h5 fun _ _ z=>z.same e,QAt.same e h6⟩
 | .two o a b,_,⟨t,va,vb,h1,h2,h3,h4⟩=>⟨t,va,vb,h1,e _ _ h2,QAt.same e h3,QAt.same e h4⟩
theorem sm {n:Nat}(h:n<=100:=by decide) : n<=sizeLine:=Nat.le_trans h (by decide)
theorem zew (ys:List Str) : (ys.map V.str).all zfe=true:=by
 rw [List.all_eq_true];intro v hv;obtain ⟨y,_,rfl⟩:=List.mem_map.mp hv;rfl
section
variable {K:PySem.W.Frag}{A B:TS}{D:Ends}{σ:St}{H:Hp}{i:Nat}{x a b c:Str}
theorem in2 (hx:σ[i]?=some (some (.str x)))(h1:(a == x||b == x)=true->∀ H',Same H H'->A D σ H')(h2:(a == x||b == x)=false->∀ H',Same H H'->B D σ H') :
  tIfS (zb3 (tOp (rIn K false) (tVar i) (tTup (zaf (tC (.str a)) (zaf (tC (.str b)) tNil))))) A B D σ H:=by
 refine ⟨_,hx,by show 2<=sizeLine;exact sm,fun u hu=>?_⟩
 obtain ⟨H1,e,s1,u1⟩:=fresh (.tup [.str a,.str b]) hu;rw [e];clear e;replace u1:H1 u=some (.tup (([a,b] : List Str).map V.str)):=u1
 refine ⟨u,_,rfl,.inr (SqT.of u1),rfl,zew _,_,rfl,?_⟩
 have e:(if false=true then !inV (V.str x) (([a,b] : List Str).map V.str) else inV (V.str x) (([a,b] : List Str).map V.str))=(a == x||b == x):=by
  show ((a == x)||((b == x)||false))=_
  rw [Bool.or_false]
 rw [e]
 cases q:(a == x||b == x) with
 | true=>exact iteT (h1 q H1 s1)
 | false=>exact iteF (h2 q H1 s1)
theorem in3 (hx:σ[i]?=some (some (.str x)))(h1:(a == x||b == x||c == x)=true->∀ H',Same H H'->A D σ H')(h2:(a == x||b == x||c == x)=false->∀ H',Same H H'->B D σ H') :
  tIfS (zb3 (tOp (rIn K false) (tVar i) (tTup (zaf (tC (.str a)) (zaf (tC (.str b)) (zaf (tC (.str c)) tNil)))))) A B D σ H:=by
 refine ⟨_,hx,by show 3<=sizeLine;exact sm,fun u hu=>?_⟩
 obtain ⟨H1,e,s1,u1⟩:=fresh (.tup [.str a,.str b,.str c]) hu;rw [e];clear e;replace u1:H1 u=some (.tup (([a,b,c] : List Str).map V.str)):=u1
 refine ⟨u,_,rfl,.inr (SqT.of u1),rfl,zew _,_,rfl,?_⟩
 have e:(if false=true then !inV (V.str x) (([a,b,c] : List Str).map V.str) else inV (V.str x) (([a,b,c] : List Str).map V.str))=(a == x||b == x||c == x):=by
  show ((a == x)||((b == x)||((c == x)||false)))=_
  rw [Bool.or_false,Bool.or_assoc]
 rw [e]
 cases q:(a == x||b == x||c == x) with
 | true=>exact iteT (h1 q H1 s1)
 | false=>exact iteF (h2 q H1 s1)
end
section
variable {P:Program}{w:World}{K:PySem.W.Frag}{mg:Str->Option Value}{base:Heap}
def Qn.parts:Qn->List Qn
 | .table _=>[]
 | .pick _ q=>[q]
 | .columns _ q=>[q]
 | .group _ _ q=>[q]
 | .two _ a b=>[a,b]
def zcH:Sp:=fun vs H Q _=>∃ (v:V) (q:Qn),vs=[v]/\QAt H v q/\∀ (p:Addr) (H':Hp) (xs:List V),Same H H'->H p=none->H' p=some (.lst xs)->Paired (QAt H') xs q.parts->Q (.ref p) H'
theorem zen:FnScope ["question","kind"] ["question"] (zad zes):=by walk_at "sc"
theorem zg2 {f:Addr}{fd:FuncData}(F:Fun K "parts_of" "parts_of" zes f fd) : FnOk P w K mg base CX0 1 f fd ["question"] zcH:=by
 refine F.okJ zen (fun vs H Q E h=>?_) (fun cdv A outer s H vs Q E hr h=>?_)
 ·obtain ⟨_,_,rfl,_⟩:=h
  rfl
 ·obtain ⟨v,q,rfl,hq,k⟩:=h
  have nd:=zen.nd
  refine ⟨_,(zab (zar 1 nd (e_ix zag (e_v 0) e_i))
   (zab (s_if (zap o_eq (e_v 1) e_s) (zac (zaj (zbC a0))) zaq)
   (zab (s_if (t_in (e_v 1) (zaJ (ac e_s (ac e_s (a1 e_s))))) (zac (zaj (zbC (a1 (e_ix zag (e_v 0) (e_un zmM e_i)))))) zaq)
   (zac (zaj (zbC (ac (e_ix zag (e_v 0) e_i) (a1 (e_ix zag (e_v 0) e_i))))))))),?_⟩
  have one:∀ (kd:Str) (t:Addr) (xs:List V) (vq:V) (q1:Qn),H t=some (.tup (.str kd::xs++[vq]))->QAt H vq q1->q.parts=[q1]->("pick" == kd || "columns" == kd || "group" == kd)=true->kd ≠ "table" ->
    tSeq (tIfS (zb3 (tOp rEq (tVar 1) (tC (.str "table")))) (tRet (tLst tNil)) zgw) (tSeq (tIfS (zb3 (tOp (rIn K false) (tVar 1) (tTup (zaf (tC (.str "pick")) (zaf (tC (.str "columns")) (zaf (tC (.str "group")) tNil)))))) (tRet (tLst (zaf (tOp (rIxT K) (tVar 0) (tUn (rU fun i=>.int (-i)) (tC (.int 1)))) tNil))) zgw) (tRet (tLst (zaf (tOp (rIxT K) (tVar 0) (tC (.int 1))) (zaf (tOp (rIxT K) (tVar 0) (tC (.int 2))) tNil))))) { nx:=fun _ H'=>Q .non H',rt:=Q } [some (.ref t),some (.str kd)] H:=by
   intro kd t xs vq q1 ht hq1 eq kin nt
   refine ⟨_,rfl,rfl,_,rfl,iteSF nt ?_⟩
   refine in3 (x:=kd) rfl (fun _ H1 s1=>?_) (fun e=>by rw [kin] at e;cases e)
   refine ⟨_,rfl,1,rfl,t,_,-1,_,rfl,rfl,SqT.of (s1 _ _ ht),zhI _ _,by show 1<=sizeLine;exact sm,fun p hp=>?_⟩
   have s2:Same H1 (upd H1 p (.lst [vq])):=(Same.refl H1).upd hp
   refine k p _ [vq] (s1.trans s2) (s1.free hp) zaa ?_
   rw [eq]
   exact .cons (hq1.same (s1.trans s2)) .nil
  cases q with
  | table z =>
   obtain ⟨t,rfl,ht⟩:=hq
   refine ⟨_,rfl,ixTc ht rfl ?_⟩
   refine ⟨_,rfl,rfl,_,rfl,zaF ?_⟩
   exact ⟨Nat.zero_le _,fun p hp=>k p _ [] ((Same.refl H).upd hp) hp zaa .nil⟩
  | pick c q =>
   obtain ⟨t,vc,vq,rfl,ht,hc,hq⟩:=hq
   exact ⟨_,rfl,ixTc ht rfl (one "pick" t [vc] vq q ht hq rfl (by decide +kernel) (by decide +kernel))⟩
  | columns cs q =>
   obtain ⟨t,l,vq,rfl,ht,hl,hq⟩:=hq
   exact ⟨_,rfl,ixTc ht rfl (one "columns" t [.ref l] vq q ht hq rfl (by decide +kernel) (by decide +kernel))⟩
  | group cs ag q =>
   obtain ⟨t,l,m,ms,vq,rfl,ht,hl,hm,hp,hq⟩:=hq
   exact ⟨_,rfl,ixTc ht rfl (one "group" t [.ref l,.ref m] vq q ht hq rfl (by decide +kernel) (by decide +kernel))⟩
  | two o a b =>
   obtain ⟨t,va,vb,rfl,ht,ha,hb⟩:=hq
   refine ⟨_,rfl,ixTc ht rfl ?_⟩
   have e1:o.nm ≠ "table" := by cases o<;>decide +kernel
   have e2:("pick" == o.nm || "columns" == o.nm || "group" == o.nm)=false:=by cases o<;>decide +kernel
   refine ⟨_,rfl,rfl,_,rfl,iteSF e1 ?_⟩
   refine in3 (x:=o.nm) rfl (fun e=>by rw [e2] at e;cases e) (fun _ H1 s1=>?_)
   refine ⟨_,rfl,ixTc (s1 _ _ ht) rfl ⟨_,rfl,ixTc (s1 _ _ ht) rfl ⟨by show 2<=sizeLine;exact sm,fun p hp=>?_⟩⟩⟩
   have s2:Same H1 (upd H1 p (.lst [va,vb])):=(Same.refl H1).upd hp
   exact k p _ [va,vb] (s1.trans s2) (s1.free hp) zaa (.cons (ha.same (s1.trans s2)) (.cons (hb.same (s1.trans s2)) .nil))
end
def grp (cs:List Nat)(es:List (List Int))(c:List Int) : List (List Int):=es.filter fun e=>decide (pick cs e=c)
theorem zko (cs:List Nat)(es:List (List Int))(e:List Int)(c:List Int) : grp cs (es++[e]) c=grp cs es c++if pick cs e=c then [e] else []:=by
 unfold grp
 rw [List.filter_append]
 congr 1
 by_cases h:pick cs e=c<;>simp [h]
abbrev Gd:=List (List Int×Addr×List (List Int))
def zcY (gd:Gd) : List (List Key×V):=gd.map fun g=>(g.1.map Sum.inl,V.ref g.2.1)
def gdTd (gd:Gd) : Td:=gd.map fun g=>(g.1,g.2.1,[])
theorem zhP (gd:Gd) : zkH (gdTd gd)=zcY gd:=by unfold zkH gdTd zcY;rw [List.map_map];rfl
theorem zga (gd:Gd) : (gdTd gd).map (·.1)=gd.map (·.1):=by unfold gdTd;rw [List.map_map];rfl
theorem zlu {gd:Gd}(nd:(gd.map (·.1)).Nodup){g:List Int×Addr×List (List Int)}(hg:g∈gd) : valV (zcY gd) (g.1.map Sum.inl)=some (.ref g.2.1):=by
 rw [<- zhP]
 exact zlD (td:=gdTd gd) (by rw [zga];exact nd) (q:=(g.1,g.2.1,[])) (List.mem_map.mpr ⟨g,hg,rfl⟩)
theorem zj9 {gd:Gd}{k:List Int}(h:k∉gd.map (·.1)) : valV (zcY gd) (k.map Sum.inl)=none:=by
 rw [<- zhP]
 exact zki (by rw [zga];exact h)
structure GdE (H0 H:Hp) (d:Addr) (gd:Gd) : Prop where
 at':H d=some (.dT (zcY gd))
 kn:(gd.map (·.1)).Nodup
 ls:∀ g∈gd,∃ us,H g.2.1=some (.lst us)/\Paired (RowAt H) us g.2.2
 nw:∀ g∈gd,H0 g.2.1=none
 nd:(gd.map (·.2.1)).Nodup
 sm:Same H0 H
 fr:H0 d=none
section
variable {H0 H H':Hp}{d:Addr}{gd l1 l2:Gd}
theorem GdE.same (h:GdE H0 H d gd)(s:Same H H') : GdE H0 H' d gd :=
 ⟨s _ _ h.at',h.kn,fun g hg=>let ⟨us,a,b⟩:=h.ls g hg;⟨us,s _ _ a,rS s b⟩,h.nw,h.nd,h.sm.trans s,h.fr⟩
theorem GdE.app {g:List Int×Addr×List (List Int)}{us:List V}{v:V}{e:List Int}(h:GdE H0 H d (l1++g::l2))(hus:H g.2.1=some (.lst us))(hv:RowAt H v e) :
  GdE H0 (upd H g.2.1 (.lst (us++[v]))) d (l1++(g.1,g.2.1,g.2.2++[e])::l2):=by
 have nt:=zbW hus
 have hg:g∈l1++g::l2:=List.mem_append_right _ List.mem_cons_self
 have nS : ¬ (H0 g.2.1≠none):=fun z=>z (h.nw g hg)
 have nd:=h.nd
 rw [List.map_append,List.map_cons] at nd
 obtain ⟨n1,n2,n3⟩:=List.nodup_append.mp nd
 obtain ⟨n4,n5⟩:=List.nodup_cons.mp n2
 have ndg:d≠g.2.1:=zkA h.at' hus (fun z=>nomatch z)
 have keepE:∀ {vs:List V} {es:List (List Int)},Paired (RowAt H) vs es->Paired (RowAt (upd H g.2.1 (.lst (us++[v])))) vs es:=fun {vs es} z=>Paired.mapP z fun _ _ y=>zbf nt y
 refine ⟨?_,?_,fun g' hg'=>?_,fun g' hg'=>?_,?_,h.sm.upd (h.nw g hg),h.fr⟩
 ·rw [zam ndg,h.at']
  unfold zcY
  rw [List.map_append,List.map_append,List.map_cons,List.map_cons]
 ·have:=h.kn
  rw [List.map_append,List.map_cons] at this ⊢
  exact this
 ·obtain ⟨us0,a0,b0⟩:=h.ls g hg
  rw [hus] at a0
  cases a0
  have old:∀ g'∈l1++l2,g'.2.1≠g.2.1:=fun g' hg' z=>by
   rcases List.mem_append.mp hg' with q | q
   ·exact n3 _ (List.mem_map_of_mem q) _ List.mem_cons_self z
   ·exact n4 (z ▸ List.mem_map_of_mem q)
  have other:g'∈l1++l2->∃ us',upd H g.2.1 (.lst (us++[v])) g'.2.1=some (.lst us')/\Paired (RowAt (upd H g.2.1 (.lst (us++[v])))) us' g'.2.2:=fun q=>by
   have hm:g'∈l1++g::l2:=by
    rcases List.mem_append.mp q with z | z
    ·exact List.mem_append_left _ z
    ·exact List.mem_append_right _ (List.mem_cons_of_mem _ z)
   obtain ⟨us1,a1,b1⟩:=h.ls g' hm
   exact ⟨us1,by rw [zam (old g' q)];exact a1,keepE b1⟩
  rcases List.mem_append.mp hg' with q | q
  ·exact other (List.mem_append_left _ q)
  ·rcases List.mem_cons.mp q with q | q
   ·subst q
    exact ⟨_,zaa,zak (R:=RowAt (upd H g.2.1 (.lst (us++[v])))) (zbf nt hv) (keepE b0)⟩
   ·exact other (List.mem_append_right _ q)
 ·rcases List.mem_append.mp hg' with q | q
  ·exact h.nw g' (List.mem_append_left _ q)
  ·rcases List.mem_cons.mp q with q | q
   ·subst q;exact h.nw g hg
   ·exact h.nw g' (List.mem_append_right _ (List.mem_cons_of_mem _ q))
 ·have:=h.nd
  rw [List.map_append,List.map_cons] at this ⊢
  exact this
theorem GdE.new {z:Addr}{k:List Int}(h:GdE H0 H d gd)(hz:H z=some (.lst []))(hz0:H0 z=none)(nz:z∉gd.map (·.2.1))(nk:k∉gd.map (·.1)) :
  GdE H0 (upd H d (.dT (putK (zcY gd) (k.map Sum.inl) (.ref z)))) d (gd++[(k,z,[])]):=by
 have nt:∀ xs,H d≠some (.tup xs):=fun xs q=>by rw [h.at'] at q;cases q
 have nS : ¬ (H0 d≠none):=fun z=>z h.fr
 have ndl:∀ {q:Addr} {us:List V},H q=some (.lst us)->q≠d:=fun {q us} hq=>zkA hq h.at' (fun z=>nomatch z)
 refine ⟨?_,?_,fun e he=>?_,fun e he=>?_,?_,h.sm.upd h.fr,h.fr⟩
 ·rw [zaa,zdR _ (zj9 nk)];unfold zcY;rw [List.map_append];rfl
 ·rw [List.map_append,List.nodup_append]
  exact ⟨h.kn,by simp,fun a ha b hb=>by
   have:b=k:=by simpa using hb
   subst this;exact fun q=>nk (q ▸ ha)⟩
 ·rcases List.mem_append.mp he with q | q
  ·obtain ⟨us,a,b⟩:=h.ls e q
   exact ⟨us,by rw [zam (ndl a)];exact a,Paired.mapP b fun _ _ y=>zbf nt y⟩
  ·rw [List.mem_singleton.mp q]
   exact ⟨[],by rw [zam (ndl hz)];exact hz,.nil⟩
 ·rcases List.mem_append.mp he with q | q
  ·exact h.nw e q
  ·rw [List.mem_singleton.mp q];exact hz0
 ·rw [List.map_append,List.nodup_append]
  exact ⟨h.nd,by simp,fun a ha b hb=>by
   have:b=z:=by simpa using hb
   subst this;exact fun q=>nz (q ▸ ha)⟩
end
def Gds (cs:List Nat)(H0 H:Hp)(d:Addr)(es:List (List Int)) : Prop:=∃ gd,GdE H0 H d gd/\(∀ g∈gd,g.2.2=grp cs es g.1)/\(∀ r,r∈gd.map (·.1)↔∃ e∈es,pick cs e=r)/\gd.length<=es.length
end Prf
namespace L2
open PySem PySem.Spec PyProof.Rows
section
variable {prog:Program}{w:World}{A:Around}{E:Value->Shared->Prop}{s:Shared}
theorem zdD {c d:Addr}{T:String}{es:Array DictEntry}{ep:Nat}{xs:List V}{kf:V->List Int}{Q:Value->Shared->Prop}(hh:A.handled=none)(hc:c<s.heap.objs.size)(hm:Wr.RDict s.heap d es ep)
  (hT:∀ h':Heap,(∀ b o,s.heap.get? b=some o->h'.get? b=some o)->({ s with heap:=h' } : Shared).TypeIs (.ref c) T) (h1:(Value.type T == Value.type "list")=false) (h2:(Value.type T == Value.type "tuple")=false)
  (hit:∀ (h':Heap) (Q':Value->Shared->Prop),(∀ b o,s.heap.get? b=some o->h'.get? b=some o) ->
   (∀ h'',h''.IsKeyIter h'.objs.size d 0 es.size ep->(∀ b o,h'.get? b=some o->h''.get? b=some o)->Q' (.ref h'.objs.size) { s with heap:=h'' })->wpAny (model prog w) A.in1.in1 (pyIter (.ref c)) Q' E { s with heap:=h' })
  (hint:∀ (h':Heap) (Q':Bool->Shared->Prop),(∀ b o,s.heap.get? b=some o->h'.get? b=some o)->Q' false { s with heap:=h' }->wpAny (model prog w) A.in1.in1 (Builtin.List.listLengthHint (.ref c)) Q' E { s with heap:=h' })
  (r:Vals xs (es.toList.map (·.key))) (hu:A.units+3<cLine) (S:∀ {A':Around} {E':Value->Shared->Prop} {P:PySem.Fin->Shared->Prop} (h':Heap) (tk:Nat) (L:Addr),(∀ b o,s.heap.get? b=some o->h'.get? b=some o)->h'.get? L=some (seqObj "list" (es.toList.map (·.key)).toArray 0)->A'.units<cLine->(∀ ys ws,Vals ys ws->ys.Perm xs->za2 kf ys->P (.done (.ret .none)) { s with heap:=sortedHeap h' L (es.toList.map (·.key)) ws.toArray,toks:=tk })->wpAny (model prog w) A' (Builtin.«list.sort» ⟨[.ref L],[]⟩) P E' { s with heap:=h',toks:=tk }) (h64:es.size<64)
  (h:∀ (D:Addr) (h':Heap) (ys:List V) (ws:List Value) (e tk:Nat),(∀ b o,s.heap.get? b=some o->h'.get? b=some o)->s.heap.objs.size<=D->h'.get? D=some (seqObj "list" ws.toArray e)->Vals ys ws->ys.Perm xs->za2 kf ys->Q (.ref D) { s with heap:=h',toks:=tk }) :
  wpAny (model prog w) A (call (.builtin "sorted") [.ref c]) Q E s:=by
 obtain ⟨od,hod,_,_⟩:=id hm.ex
 have hd:d<s.heap.objs.size:=Heap.lt_size hod
 refine Calls.call_function_entry kind_sorted plain_sorted entry_sorted (args_sorted1 _) ?_
 unfold Builtin.«sorted»
 refine wpAny_bind (m:=checkCount "sorted" 1 1 _) (wpAny_pure (wpAny_bind ?_))
 have hz:es.size<=sizeLine:=zh6 h64
 refine Wr.collect_byD (A:=A.in1) (T:=T) (n:=es.size) (P:=fun i v=>∃ e,es[i]?=some e/\v=e.key) (St:=fun it i h=>h.IsKeyIter it d i es.size ep/\Wr.RDict h d es ep) hc hd hT h1 h2
  (fun h' Q' k hge hq=>hit h' Q' k fun h'' st k2=>hq h'.objs.size h'' (Nat.le_refl _) k2 ⟨st,hm.at fun o e=>k2 _ _ (k _ _ e)⟩) hint (fun it hne=>Wr.rd_walks (A:=A.in1.in1) (by simpa using hh) it d hne es ep) hz fun h3 tk acc k1 hsz htk items=>?_
 have ea:acc.toList=es.toList.map (·.key):=by
  apply List.ext_getElem
  ·rw [Array.length_toList,List.length_map,Array.length_toList,items.1]
  ·intro i hi hi2
   rw [Array.length_toList] at hi
   obtain ⟨e,e1,e2⟩:=items.2 i acc[i] (by simp [hi])
   obtain ⟨q1,q2⟩:=Array.getElem?_eq_some_iff.mp e1
   simp [q2,e2]
 rw [ea]
 have l64:(es.toList.map (·.key)).length<64:=by rw [List.length_map,Array.length_toList];exact h64
 refine wpAny_bind (wpAny_newList ?_ (zh6 l64))
 have hoL:(h3.push (seqObj "list" (es.toList.map (·.key)).toArray 0)).get? h3.objs.size=some (seqObj "list" (es.toList.map (·.key)).toArray 0):=Heap.get?_push_size _ rfl
 refine wpAny_bind (wpAny_holding (wpAny_call_entry (s:={ s with heap:=h3.push (seqObj "list" (es.toList.map (·.key)).toArray 0),toks:=tk }) slot_list_sort ⟨_,hoL,rfl⟩ entry_list_sort (S _ tk _ (fun b o hb=>Heap.get?_push_of_some _ (k1 b o hb)) hoL (by first | (show A.units+2<cLine;lia) | (show A.units+1<cLine;lia) | (show A.units+3<cLine;lia) | (simp;lia)) fun ys ws v1 v2 v3=>⟨_,rfl,?_⟩) (args_list_sort _)))
 obtain ⟨e,he⟩:=sortedHeap_at (out:=ws.toArray) hoL
 refine wpAny_pure ⟨_,rfl,h h3.objs.size _ ys ws e tk (fun b ob q=>?_) (Nat.le_of_lt hsz) he v1 v2 v3⟩
 have hb:b<h3.objs.size:=Heap.lt_size (k1 b ob q)
 rw [sortedHeap_old (Nat.ne_of_lt hb) (by rw [Heap.size_push];exact Nat.lt_succ_of_lt hb)]
 exact Heap.get?_push_of_some _ (k1 b ob q)
end
section
variable {X:Cx}{pins:List (Addr×Obj)}{σ:St}{H:Hp}{s:Shared}
structure TDictE (H:Hp) (d:Addr) (kvs:List (List Key×V)) (ks:List (List Int)) : Prop where
 at':Rd H d (.dT kvs)
 keys:kvs.map (·.1)=ks.map (·.map Sum.inl)
 some':(∀ k∈ks,k≠[])\/∀ k∈ks,k=[]
theorem ziw {d:Addr}{kvs:List (List Key×V)}{ks:List (List Int)}(I:Inv X pins σ H s)(T:TDictE H d kvs ks) :
  ∃ (es:Array DictEntry) (ep:Nat) (xs:List V),Wr.RDict s.heap d es ep/\(d == sysModules)=false/\Vals xs (es.toList.map (·.key))/\Paired (RowAt H) xs ks/\xs.map (kfI H)=ks/\(KeysAt s.heap (es.toList.map (·.key)) (xs.map (kfI H))\/∀ k∈ks,k=[])/\es.size=kvs.length:=by
 obtain ⟨z,hd,xs,rel,o,es,ep,ho,hc,hdat,he,h6,h7⟩:=ziJ I.hok T.at'
 have ek:es.toList.map (·.key)=xs.map fun x=>Value.ref x.2.1:=by
  rw [he,List.map_map];rfl
 have pr:Paired (RowAt H) (xs.map fun x=>V.ref x.2.1) ks:=by
  have kk:=T.keys
  clear ek he T z h6 h7
  induction rel generalizing ks with
  | nil =>
   cases ks with
   | nil=>exact .nil
   | cons _ _=>cases kk
  | cons r _ ih =>
   cases ks with
   | nil=>cases kk
   | cons k ks =>
    simp only [List.map_cons,List.cons.injEq] at kk
    refine .cons ?_ (ih kk.2)
    obtain ⟨r1,r2,r3⟩:=r
    rw [kk.1,zgS] at r2
    exact ⟨_,rfl,r2⟩
 have vals:∀ l:List (List Key×Addr×Value),Vals (l.map fun x=>V.ref x.2.1) (l.map fun x=>Value.ref x.2.1):=fun l=>by
  induction l with
  | nil=>exact .nil
  | cons _ _ ih=>exact .cons rfl ih
 have em:∀ {ys:List V} {ks:List (List Int)},Paired (RowAt H) ys ks->ys.map (kfI H)=ks:=by
  intro ys ks p
  induction p with
  | nil=>rfl
  | cons r _ ih=>rw [List.map_cons,ze3 r,ih]
 have keys:∀ {l:List (List Key×Addr×Value)} {ks:List (List Int)},Paired (RowAt H) (l.map fun x=>V.ref x.2.1) ks->(∀ k∈ks,k≠[])->KeysAt s.heap (l.map fun x=>Value.ref x.2.1) ks:=by
  intro l
  induction l with
  | nil=>intro ks p _;cases p;exact .nil
  | cons x l ih =>
   intro ks p ne
   cases p with
   | cons r t =>
    obtain ⟨t',e1,e2⟩:=r
    cases e1
    exact .cons (zle I e2 (ne _ List.mem_cons_self)) (ih t fun k hk=>ne k (List.mem_cons_of_mem _ hk))
 refine ⟨es,ep,xs.map fun x=>V.ref x.2.1,⟨o,ho,hc,hdat⟩,hd,by rw [ek];exact vals xs,pr,em pr,by rw [ek,em pr];exact T.some'.imp_left (keys pr),?_⟩
 have:=congrArg List.length he
 rw [Array.length_toList,List.length_map] at this
 rw [this,<- Paired.length rel]
def zkd:List V->Hp->VK->Prop:=fun xs H Q=>∃ (c d:Addr) (kvs:List (List Key×V)) (ks:List (List Int)),xs=[.ref c]/\TDictE H d kvs ks/\zlZ H c d/\kvs.length<64 /\
 ∀ (D:Addr) (ys:List V) (ks':List (List Int)),H D=none->Paired (RowAt H) ys ks'->ks'.Perm ks->(ks'.Pairwise fun a b=>lexI b a=false)->Q (.ref D) (upd H D (.lst ys))
theorem zd7 (hc:X.calm=true)(hu:X.A.units+3<cLine) : zb4 X (.builtin "sorted") zkd:=by
 intro pins s σ H xs us Q I r ⟨c,d,kvs,ks,e,T,kd,h64,q⟩
 subst e
 obtain ⟨u,rfl,ru⟩:=Vals.one r
 cases ru
 obtain ⟨es,ep,xs,hm,hd,rv,pr,em,K,hsz⟩:=ziw I T
 have fin:∀ (D:Addr) (h':Heap) (ys:List V) (ws:List Value) (e tk:Nat),(∀ b o,s.heap.get? b=some o->h'.get? b=some o)->s.heap.objs.size<=D->h'.get? D=some (seqObj "list" ws.toArray e)->Vals ys ws->ys.Perm xs->za2 (kfI H) ys->EP X pins σ Q (.ref D) { s with heap:=h',toks:=tk }:=by
  intro D h' ys ws e tk k hD hg v1 v2 v3
  have row:∀ y∈ys,RowAt H y (kfI H y):=fun y hy=>by
   have go:∀ {xs:List V} {ks:List (List Int)},Paired (RowAt H) xs ks->y∈xs->RowAt H y (kfI H y):=by
    intro xs ks p
    induction p with
    | nil=>intro z;cases z
    | cons r _ ih =>
     intro z
     rcases List.mem_cons.mp z with e | z
     ·subst e;rw [ze3 r];exact r
     ·exact ih z
   exact go pr (v2.mem_iff.mp hy)
  have pys:∀ l:List V,(∀ y∈l,RowAt H y (kfI H y))->Paired (RowAt H) l (l.map (kfI H)):=fun l=>by
   induction l with
   | nil=>intro _;exact .nil
   | cons y l ih=>intro h;exact .cons (h y List.mem_cons_self) (ih fun z hz=>h z (List.mem_cons_of_mem _ hz))
  have hl:ys.length<64:=by
   rw [v2.length_eq]
   have:=Vals.length rv
   rw [List.length_map] at this
   have e2:es.toList.length=es.size:=Array.length_toList
   lia
  refine ⟨.ref D,_,I.laid (a:=D) (o:=.lst ys) (t':=tk) (fun b u z=>k b u z) hD ⟨zh6 hl,ws,e,v1,hg⟩,rfl,q D ys (ys.map (kfI H)) (I.hok.fresh hD) (pys ys row) ?_ (List.pairwise_map.mpr v3)⟩
  rw [<- em]
  exact v2.map _
 have S:∀ {A':Around} {E':Value->Shared->Prop} {P:PySem.Fin->Shared->Prop} (h':Heap) (tk:Nat) (L:Addr),(∀ b o,s.heap.get? b=some o->h'.get? b=some o)->h'.get? L=some (seqObj "list" (es.toList.map (·.key)).toArray 0)->A'.units<cLine->(∀ ys ws,Vals ys ws->ys.Perm xs->za2 (kfI H) ys->P (.done (.ret .none)) { s with heap:=sortedHeap h' L (es.toList.map (·.key)) ws.toArray,toks:=tk })->wpAny (model X.prog X.w) A' (Builtin.«list.sort» ⟨[.ref L],[]⟩) P E' { s with heap:=h',toks:=tk }:=by
  intro A' E' P h' tk L k hL hu' hP
  have le:(es.toList.map (·.key)).length<64:=by rw [List.length_map,Array.length_toList];lia
  rcases K with K | K
  ·exact zbr (s:={ s with heap:=h',toks:=tk }) hL rv (Paired.mapP K fun v _ x=>x.keeps fun b o hb _=>k b o hb) (by lia) hP
  ·obtain ⟨em1,ek1⟩:=zeY I k rv pr K
   refine zb6 (s:={ s with heap:=h',toks:=tk }) hL rv hu' em1 (by lia) fun zs ws v1 v2=>hP zs ws v1 v2 ?_
   unfold za2
   refine List.pairwise_of_forall_mem_list fun x hx y hy=>?_
   rw [ek1 x (v2.mem_iff.mp hx),ek1 y (v2.mem_iff.mp hy)]
   rfl
 have hlt:∀ b o,s.heap.get? b=some o->b<s.heap.objs.size:=fun b o e=>Heap.lt_size e
 rcases kd with rfl | hv
 ·obtain ⟨o,ho,_⟩:=id hm.ex
  refine zdD (T := "dict") (zgM I hc) (hlt _ _ ho) hm (fun h' k=>(hm.at fun o e=>k _ _ e:Wr.RDict ({ s with heap:=h' } : Shared).heap c es ep).typeIs) (by decide) (by decide) (fun h' Q' k hq=>?_) (fun h' Q' k hq=>?_) rv hu S (by lia) fin
  ·exact Wr.rd_iter (s:={ s with heap:=h' }) hd (hm.at fun o e=>k _ _ e) fun h'' st k2=>hq h'' st k2
  ·exact W.kdl_hint_dict (hm.at fun o e=>k _ _ e:Wr.RDict ({ s with heap:=h' } : Shared).heap c es ep).typeIs hq
 ·have hview:W.KdlKeysView s.heap c d:=(I.hok c _ hv).1
  obtain ⟨ov,hov,hcv,hdv⟩:=id hview
  have hv':∀ h':Heap,(∀ b o,s.heap.get? b=some o->h'.get? b=some o)->W.KdlKeysView h' c d:=fun h' k=>⟨ov,k _ _ hov,hcv,hdv⟩
  refine zdD (T := "dict_keys") (zgM I hc) (hlt _ _ hov) hm (fun h' k=>(hv' h' k:W.KdlKeysView ({ s with heap:=h' } : Shared).heap c d).typeIs) (by decide) (by decide) (fun h' Q' k hq=>?_) (fun h' Q' k hq=>?_) rv hu S (by lia) fin
  ·exact Wr.rd_iterK (s:={ s with heap:=h' }) (hv' h' k) (hm.at fun o e=>k _ _ e) fun h'' st k2=>hq h'' st k2
  ·exact W.kdl_hint_keys (hv' h' k:W.KdlKeysView ({ s with heap:=h' } : Shared).heap c d).typeIs hq
theorem zlc (hc:X.calm=true:=by rfl){k:Nat}(hr:Room k X.A) : JC X (.builtin "sorted") zkd:=⟨zd7 hc (by have:=hr.units;lia)⟩
end
end L2
namespace Prf
open PySem L2 Wr
section
variable {P:Program}{w:World}{K:PySem.W.Frag}{mg:Str->Option Value}{base:Heap}
structure Grpd (cs:List Nat) (ag:List Sm) (rs out:List (List Int)) (keys:List (List Int)) : Prop where
 ord:keys.Pairwise fun a b=>lexI b a=false
 nd:keys.Nodup
 mem:∀ k,k∈keys↔∃ r∈rs,pick cs r=k
 row:Paired (fun o k=>∃ ns,o=k++ns/\Paired (fun m a=>Sm.is (grp cs rs k) a m) ns ag) out keys
def zcr:Sp:=fun vs H Q _=>∃ (c m a:Addr) (ms xs:List V) (cs:List Nat) (ag:List Sm) (rs:List (List Int)) (L:Nat),vs=[.ref c,.ref m,.ref a]/\H c=some (.lst (colV cs))/\H m=some (.lst ms)/\Paired (SmAt H) ms ag/\H a=some (.lst xs)/\Paired (RowAt H) xs rs/\(∀ r∈rs,r.length=L)/\(∀ i∈cs,i<L)/\(∀ s∈ag,s.ok L)/\cs.length<=50/\ag.length<=50/\rs.length<=60 /\
 ∀ (p:Addr) (H':Hp) (zs:List V) (out keys:List (List Int)),Same H H'->H p=none->H' p=some (.lst zs)->Paired (RowAt H') zs out->Grpd cs ag rs out keys->Q (.ref p) H'
theorem zeX:FnScope ["columns","sums","rows","groups","row"] ["columns","sums","rows"] (zad ze6):=by walk_at "sc"
theorem ziu {f:Addr}{fd:FuncData}(F:Fun K "grouped" "grouped" ze6 f fd)(B:Blts mg)(F_cells_in:FnP P w K mg base 1 "cells_in" ["row","columns"] zbH)(F_sums_of:FnP P w K mg base 2 "sums_of" ["sums","rows"] zdA) : FnOk P w K mg base CX0 3 f fd ["columns","sums","rows"] zcr:=by
 refine F.okJ zeX (fun vs H Q E h=>?_) (fun cdv A outer s H vs Q E hr h=>?_)
 ·obtain ⟨_,_,_,_,_,_,_,_,_,rfl,_⟩:=h
  rfl
 ·obtain ⟨c,m,a,ms,xs,cs,ag,rs,L,rfl,hc,hm,pm,ha,px,wid,sub,oka,l50,la,l60,k⟩:=h
  have nd:=zeX.nd
  have nd2:(["cells","sums","groups"] : List Str).Nodup:=by decide +kernel
  refine ⟨_,(zab (zhT 3 nd zmD)
   (zab (zdI (zaz (e_v 2)) (g_n 4 nd)
    (zac (ziy (zku hr (e_v 3) (ac (e_fn F_cells_in hr (ac (e_v 4) (a1 (e_v 0)))) (a1 (zbC a0)))) (e_v 4))))
   (zac (zaj (zaP (Nc:=["cells","sums","groups"]) (js:=[none,some 1,some 3]) (g:=(zas 0)) (tt:=tYes) (te:=(tOp (ziq K) (tVar 0) (zbp zdA [] E0 (zaf (tVar 1) (zaf (zlP (tVar 2) (tVar 0)) tNil)))))
   (zat rfl rfl rfl rfl (fun x c h=>by simp at h;rcases h with ⟨rfl,rfl⟩ | ⟨rfl,rfl⟩<;>rfl) rfl rfl rfl) (zaz (e_cb (zlc (hr:=hr)) B.sorted PyProof.Rows.boot_sorted (a1 (e_v 3))))
   (fun pins C s3 H3 fp=>⟨(g_n 0 nd2),.inl ⟨rfl,rfl⟩,(e_op zhF (e_v 0) (e_fn F_sums_of hr (ac (e_v 1) (a1 (zhz hr (e_v 2) (e_v 0))))))⟩)))))),?_⟩
  have lx:xs.length=rs.length:=Paired.length px
  refine fun d hd=>?_
  have G0:GdE H (upd H d (.dT [])) d []:=⟨zaa,.nil,(fun g h=>nomatch h),(fun g h=>nomatch h),.nil,(Same.refl H).upd hd,hd⟩
  generalize upd H d (.dT [])=H1 at G0 ⊢
  refine ⟨_,rfl,a,rfl,⟨xs,SqL.of (G0.sm _ _ ha)⟩,zbl (K:=K) (a:=a) (xs:=xs) (fun i σ H'=>∃ (o4:Option V),σ=[some (.ref c),some (.ref m),some (.ref a),some (.ref d),o4]/\Gds cs H H' d (rs.take i))
   ⟨none,rfl,[],G0,(fun g h=>nomatch h),fun r=>⟨(fun z=>nomatch z),fun ⟨_,z,_⟩=>nomatch z⟩,Nat.zero_le _⟩ (fun i σ H' _ ⟨_,_,_,G,_⟩=>SqL.of (G.sm _ _ ha)) ?_ ?_⟩
  ·rintro i x σ H2 hx ⟨o4,rfl,gd,G,hg,hk,lg⟩
   obtain ⟨e,he,p,rfl,hp⟩:=zan px hx
   have hem:=List.mem_of_getElem? he
   have hi:=gE he
   have sm:=G.sm
   refine ⟨_,rfl,.inr (.inr (.inl ⟨rfl,.inr ⟨_,G.at'⟩⟩)),_,rfl,_,rfl,p,c,e,cs,rfl,sm _ _ hp,sm _ _ hc,fun i hi=>by rw [wid e hem];exact sub i hi,l50,fun u H3 s3 hu h3=>⟨Nat.zero_le _,fun z hz=>?_⟩⟩
   obtain ⟨H4,e,s4,u4⟩:=fresh (.lst []) hz;rw [e];clear e
   have s24:=s3.trans s4
   have G4:=G.same s24
   have htup:H4 u=some (.tup (((pick cs e).map Sum.inl:List Key).map kV)):=by rw [zgS];exact s4 _ _ h3
   have lg5:gd.length<=60:=by rw [List.length_take] at lg;lia
   have lk:(zcY gd).length<sizeLine:=by unfold zcY;rw [List.length_map];exact Nat.lt_of_le_of_lt lg5 (by decide)
   have app:∀ (H5:Hp) (m1:Gd) (g:List Int×Addr×List (List Int)) (m2:Gd),GdE H H5 d (m1++g::m2)->g.1=pick cs e->(∀ g'∈m1++g::m2,g'.2.2=grp cs (rs.take i) g'.1)->(∀ r,r∈(m1++g::m2).map (·.1)↔(∃ e∈rs.take i,pick cs e=r)\/r=pick cs e)->(m1++g::m2).length<=i+1 ->
     (tyV K "list" (.ref g.2.1) H5/\zaf (tVar 4) tNil [some (.ref c),some (.ref m),some (.ref a),some (.ref d),some (.ref p)] H5 fun xs H6=>zdz (.ref g.2.1) xs H6 fun _ H7 =>
      ∃ (o4:Option V),[some (V.ref c),some (.ref m),some (.ref a),some (.ref d),some (.ref p)]=[some (.ref c),some (.ref m),some (.ref a),some (.ref d),o4]/\Gds cs H H7 d (rs.take (i+1))):=by
    intro H5 m1 g m2 G5 eg hg5 hk5 lg5
    have hgm:g∈m1++g::m2:=List.mem_append_right _ List.mem_cons_self
    obtain ⟨us,hus,pus⟩:=G5.ls g hgm
    have lus:us.length<=60:=by
     rw [Paired.length pus,hg5 g hgm]
     have:(grp cs (rs.take i) g.1).length<=(rs.take i).length:=List.length_filter_le _ _
     rw [List.length_take] at this
     lia
    have key1:∀ r,r∈(m1++(g.1,g.2.1,g.2.2++[e])::m2).map (·.1)↔r∈(m1++g::m2).map (·.1):=fun r=>by rw [List.map_append,List.map_append,List.map_cons,List.map_cons]
    refine ⟨.inl ⟨rfl,_,SqL.of hus⟩,_,rfl,g.2.1,us,_,rfl,rfl,hus,zah (by lia),_,rfl,_,G5.app hus ⟨p,rfl,G5.sm _ _ hp⟩,fun g' hg'=>?_,fun r=>?_,?_⟩
    ·rw [take_snoc he,zko]
     have kn:=G5.kn
     rw [List.map_append,List.map_cons] at kn
     obtain ⟨_,n2,n3⟩:=List.nodup_append.mp kn
     obtain ⟨n4,_⟩:=List.nodup_cons.mp n2
     rcases List.mem_append.mp hg' with z | z
     ·rw [if_neg (fun y=>n3 _ (List.mem_map_of_mem z) _ List.mem_cons_self (by rw [eg];exact y.symm)),List.append_nil]
      exact hg5 g' (List.mem_append_left _ z)
     ·rcases List.mem_cons.mp z with z | z
      ·subst z
       show g.2.2++[e]=grp cs (rs.take i) g.1++if pick cs e=g.1 then [e] else []
       rw [if_pos eg.symm,hg5 g hgm]
      ·rw [if_neg (fun y=>n4 (by rw [eg,y];exact List.mem_map_of_mem z)),List.append_nil]
       exact hg5 g' (List.mem_append_right _ (List.mem_cons_of_mem _ z))
    ·rw [key1,hk5,take_snoc he]
     constructor
     ·rintro (⟨e',h1,h2⟩ | z)
      ·exact ⟨e',List.mem_append_left _ h1,h2⟩
      ·exact ⟨e,List.mem_append_right _ List.mem_cons_self,z.symm⟩
     ·rintro ⟨e',h1,h2⟩
      rcases List.mem_append.mp h1 with z | z
      ·exact .inl ⟨e',z,h2⟩
      ·rw [List.mem_singleton.mp z] at h2;exact .inr h2.symm
    ·rw [List.length_append,List.length_cons] at lg5 ⊢
     rw [List.length_take];lia
   have lti:(rs.take i).length=i:=by rw [List.length_take];lia
   refine ⟨d,u,.ref z,zcY gd,(pick cs e).map Sum.inl,rfl,rfl,G4.at',htup,lk,?_⟩
   by_cases hr':pick cs e∈gd.map (·.1)
   ·obtain ⟨g,hgm,eg⟩:=List.mem_map.mp hr'
    have hv:=zlu G4.kn hgm
    rw [eg] at hv
    rw [hv]
    obtain ⟨m1,m2,rfl⟩:=List.append_of_mem hgm
    exact app H4 m1 g m2 G4 eg hg (fun r=>by rw [hk];exact ⟨.inl,fun y=>y.elim id fun y=>(hk r).mp (y ▸ hr')⟩) (by lia)
   ·rw [zj9 hr']
    have fz:H z=none:=(sm.trans s3).free hz
    have nz:z∉gd.map (·.2.1):=fun y=>by
     obtain ⟨g,hgm,e'⟩:=List.mem_map.mp y
     obtain ⟨_,e2,_⟩:=G.ls g hgm
     rw [e',<- e'] at e2
     have:=s3 _ _ e2
     rw [e',hz] at this
     cases this
    refine app _ gd (pick cs e,z,[]) [] (G4.new u4 fz nz hr') rfl (fun g' hg'=>?_) (fun r=>?_) (by rw [List.length_append,List.length_singleton];lia)
    ·rcases List.mem_append.mp hg' with y | y
     ·exact hg g' y
     ·rw [List.mem_singleton.mp y]
      show []=grp cs (rs.take i) (pick cs e)
      refine (List.filter_eq_nil_iff.mpr fun e' h1 h2=>hr' ((hk _).mpr ⟨e',h1,of_decide_eq_true h2⟩)).symm
    ·rw [List.map_append,List.mem_append,hk];simp
  rintro σ H2 ⟨o4,rfl,gd,G,hg,hk,lg⟩
  rw [lx,List.take_length] at hg hk lg
  have keyw:∀ q∈gd.map (·.1),q.length=cs.length:=fun q hq=>by
   obtain ⟨e,_,z⟩:=(hk q).mp hq
   rw [<- z];exact zaW _ _
  have emp:(∀ q∈gd.map (·.1),q≠[])\/∀ q∈gd.map (·.1),q=[]:=by
   by_cases z:cs.length=0
   ·exact .inr fun q hq=>List.length_eq_zero_iff.mp (by rw [keyw q hq];exact z)
   ·exact .inl fun q hq y=>z (by rw [<- keyw q hq,y];rfl)
  refine ⟨_,rfl,d,d,zcY gd,gd.map (·.1),rfl,⟨.inl G.at',by unfold zcY;rw [List.map_map,List.map_map];rfl,emp⟩,.inl rfl,by unfold zcY;rw [List.length_map];lia,fun D ys ks hD pr pk ord=>?_⟩
  obtain ⟨H3,e,s1,u1⟩:=fresh (.lst ys) hD;rw [e];clear e
  have G3:=G.same s1
  have ly:ys.length=ks.length:=Paired.length pr
  refine ⟨D,rfl,⟨_,SqL.of u1⟩,fun D2 hD2=>?_⟩
  have nDD:D2≠D:=fun z=>by rw [z,u1] at hD2;cases hD2
  refine zaK (K:=K) (a:=D) (xs:=ys) (fun j _ σ H4=>∃ (o:Option V) (ws:List V) (out:List (List Int)),σ=[o,some (.ref m),some (.ref d)]/\Same H3 H4/\H4 D2=some (.lst ws)/\Paired (RowAt H4) ws out/\Paired (fun o k=>∃ ns,o=k++ns/\Paired (fun m a=>Sm.is (grp cs rs k) a m) ns ag) out (ks.take j))
   ⟨none,[],[],rfl,(Same.refl H3).upd hD2,zaa,.nil,.nil⟩ (fun j _ σ H4 _ ⟨_,_,_,_,sm,_⟩=>SqL.of (sm _ _ u1)) ?_ ?_
  ·rintro j y _ σ H4 hy ⟨o,ws,out,rfl,sm4,h4,pw,po⟩
   obtain ⟨q,hq1,tq,rfl,htq⟩:=zan pr hy
   have hj:=gE hq1
   have hqk:q∈gd.map (·.1):=pk.mem_iff.mp (gM hq1)
   obtain ⟨g,hgm,eg⟩:=List.mem_map.mp hqk
   have eg:g.1=q:=eg
   subst eg
   have G4:=G3.same sm4
   have htq4:H4 tq=some (.tup (g.1.map V.int)):=sm4 _ _ (s1 _ _ htq)
   obtain ⟨us,hus,pus⟩:=G4.ls g hgm
   have egr:=hg g hgm
   have gne:g.2.2≠[]:=by
    obtain ⟨e,he,z⟩:=(hk g.1).mp hqk
    rw [egr]
    exact List.ne_nil_of_mem (List.mem_filter.mpr ⟨he,decide_eq_true z⟩)
   have gl:g.2.2.length<=rs.length:=by rw [egr];exact List.length_filter_le _ _
   have lks:ks.length=gd.length:=by rw [pk.length_eq,List.length_map]
   have low:ws.length=(ks.take j).length:=by rw [Paired.length pw,Paired.length po]
   refine ⟨_,rfl,_,rfl,_,rfl,_,rfl,d,_,rfl,.inr ⟨_,_,tq,.inl G4.at',rfl,by rw [zgS];exact htq4,(zlu G4.kn hgm).symm⟩,m,g.2.1,ms,us,ag,g.2.2,rfl,G4.sm _ _ hm,Paired.mapP pm fun _ _ z=>z.same G4.sm,hus,pus,fun s hs r hr=>by rw [egr] at hr;rw [wid r (List.mem_filter.mp hr).1];exact oka s hs,gne,by lia,la,fun t H5 ns s5 ht h5 pn=>?_⟩
   rw [egr] at pn
   have ln:ns.length=ag.length:=Paired.length pn
   have sml:ws.length+1<=1000:=by rw [low,List.length_take];lia
   have cl:∀ (v:Addr) (H6:Hp),Same H5 H6->H6 v=some (.tup ((g.1++ns).map V.int))->Paired (RowAt (upd H6 D2 (.lst (ws++[.ref v])))) (ws++[.ref v]) (out++[g.1++ns]):=fun v H6 s6 hv=>by
    have nt:=zbW (s6 _ _ (s5 _ _ h4))
    exact zak (R:=RowAt (upd H6 D2 (.lst (ws++[.ref v])))) (zbf nt ⟨v,rfl,hv⟩) (Paired.mapP pw fun _ _ z=>zbf nt (RowAt.same (s5.trans s6) z))
   have po':Paired (fun o k=>∃ ns,o=k++ns/\Paired (fun m a=>Sm.is (grp cs rs k) a m) ns ag) (out++[g.1++ns]) (ks.take (j+1)):=by
    rw [take_snoc hq1]
    exact zak (R:=fun o k=>∃ ns,o=k++ns/\Paired (fun m a=>Sm.is (grp cs rs k) a m) ns ag) ⟨ns,rfl,pn⟩ po
   have lg1:g.1.length<=50:=by rw [keyw g.1 hqk];exact l50
   refine ⟨tq,t,_,_,rfl,rfl,SqT.of (s5 _ _ htq4),SqT.of h5,by rw [List.length_map,List.length_map,sizeLine_eq];lia,fun z=>?_,fun _ z=>?_,fun _ _ v hv=>?_⟩
   ·have e0:g.1=[]:=List.map_eq_nil_iff.mp z
    exact ⟨_,s5 _ _ h4,zah (by lia),[],_,_,_,rfl,(sm4.trans s5).upd hD2,zaa,cl t H5 (Same.refl H5) (by rw [h5,e0];rfl),po'⟩
   ·have e0:ns=[]:=List.map_eq_nil_iff.mp z
    exact ⟨_,s5 _ _ h4,zah (by lia),[],_,_,_,rfl,(sm4.trans s5).upd hD2,zaa,cl tq H5 (Same.refl H5) (by rw [e0,List.append_nil];exact s5 _ _ htq4),po'⟩
   ·have s6:Same H5 (upd H5 v (.tup (g.1.map V.int++ns.map V.int))):=(Same.refl H5).upd hv
    exact ⟨_,s6 _ _ (s5 _ _ h4),zah (by lia),[],_,_,_,rfl,(sm4.trans (s5.trans s6)).upd hD2,zaa,cl v _ s6 (by rw [zaa,List.map_append]),po'⟩
  ·rintro _ σ H4 ⟨o,ws,out,rfl,sm4,h4,pw,po⟩
   rw [ly,List.take_length] at po
   exact k D2 H4 ws out ks (G3.sm.trans sm4) (G3.sm.free hD2) h4 pw ⟨ord,pk.nodup_iff.mpr G.kn,fun q=>by rw [pk.mem_iff,hk],po⟩
end
section
variable {P:Program}{w:World}{K:PySem.W.Frag}{mg:Str->Option Value}{base:Heap}
def zbN:Sp:=fun vs H Q _=>∃ (v:V) (l:Addr) (a:Sm) (xs:List V) (rs:List (List Int)),vs=[v,.ref l]/\SmAt H v a/\H l=some (.lst xs)/\Paired (RowAt H) xs rs/\(∀ r∈rs,a.ok r.length)/\rs≠[]/\rs.length<64 /\
 ∀ (m:Int) (H':Hp),Same H H'->a.is rs m->Q (.int m) H'
theorem zcP:FnScope ["_law_one","_law_rows","_law_cells"] ["_law_one","_law_rows"] (zad zdk):=by walk_at "sc"
theorem zfD {f:Addr}{fd:FuncData}(F:Fun K "_law_total" "_law_total" zdk f fd)(B:Blts mg) : FnOk P w K mg base CX0 1 f fd ["_law_one","_law_rows"] zbN:=by
 refine F.okJ zcP (fun vs H Q E h=>?_) (fun cdv A outer s H vs Q E hr h=>?_)
 ·obtain ⟨_,_,_,_,_,rfl,_⟩:=h
  rfl
 ·obtain ⟨v,l,a,xs,rs,rfl,hv,hl,pr,ok,ne,l9,k⟩:=h
  have nd:=zcP.nd
  have nd2:(["_law_row","_law_one"] : List Str).Nodup:=by decide +kernel
  have lx:xs.length=rs.length:=Paired.length pr
  refine ⟨_,(zab (s_if (zap o_eq (e_ix zag (e_v 0) e_i) e_s) (zac (zaj (e_cb zcd B.len PySem.boot_len (a1 (e_v 1))))) zaq)
   (zab (zgD 2 nd (Nc:=["_law_row","_law_one"]) (js:=[none,some 0]) (g:=(zas 0)) (tt:=tYes) (te:=(tOp (rIxT K) (tVar 0) (tOp (rIxT K) (tVar 1) (tC (.int 1)))))
   (zat rfl rfl rfl rfl (fun x c h=>by (obtain ⟨rfl,rfl⟩ : x=_/\c=_:=(by simpa using h));rfl) rfl rfl rfl) (zaz (e_v 1))
   (fun pins C s3 H3 fp=>⟨(g_n 0 nd2),.inl ⟨rfl,rfl⟩,(e_ix zag (e_v 0) (e_ix zag (e_v 1) e_i))⟩))
   (zab (s_if (zap o_eq (e_ix zag (e_v 0) e_i) e_s) (zac (zaj (e_cb zn1 B.sum PyProof.Rows.boot_sum (a1 (e_v 2))))) zaq)
   (zac (zaj (e_ix zaw (e_cb zmm B.sorted PyProof.Rows.boot_sorted (a1 (e_v 2))) (e_op zcw (e_op zgE e_i e_i) (e_ct znU B.int PyProof.Rows.boot_int (a1 (zfN o_eq (e_ix zag (e_v 0) e_i) e_s)))))))))),?_⟩
  have col:∀ (t:Addr) (nm:Str) (i:Nat) (G:St->Hp->Prop),H t=some (.tup [.str nm,.int (i:Int)])->(∀ r∈rs,i<r.length)->(∀ (D:Addr) (H':Hp),Same H H'->H' D=some (.lst ((zbR i rs).map V.int))->G [some (.ref t),some (.ref l),some (.ref D)] H') ->
    tAsg (zd3 [none,some 0] (zhg K (tVar 1)) (zas 0) tYes (tOp (rIxT K) (tVar 0) (tOp (rIxT K) (tVar 1) (tC (.int 1))))) (zas 2) { nx:=G,rt:=Q } [some (.ref t),some (.ref l),none] H:=by
   intro t nm i G ht hi g
   refine ⟨_,rfl,l,rfl,⟨_,SqL.of hl⟩,fun D hD=>?_⟩
   refine zaK (K:=K) (a:=l) (xs:=xs) (fun j _ σ H4=>∃ (o:Option V),σ=[o,some (.ref t)]/\Same H H4/\H4 D=some (.lst ((zbR i (rs.take j)).map V.int)))
    ⟨none,rfl,(Same.refl H).upd hD,zaa⟩ (fun j _ σ H4 _ ⟨_,_,sm,_⟩=>SqL.of (sm _ _ hl)) ?_ ?_
   ·rintro j y _ σ H4 hy ⟨o,rfl,sm,h4⟩
    obtain ⟨r,hr1,u,rfl,hu⟩:=zan pr hy
    have hj:=gE hr1
    have hlt:=hi r (gM hr1)
    refine ⟨_,rfl,_,rfl,ixTc (sm _ _ ht) rfl (ixT (sm _ _ hu) (show atI (r.map V.int) (i:Int)=some (.int (r.getD i 0)) from za1 (by simp [hlt])) ⟨_,h4,zah (by rw [List.length_map];unfold zbR;rw [List.length_map,List.length_take];lia),[],_,rfl,sm.upd hD,?_⟩)⟩
    rw [zaa,take_snoc hr1]
    unfold zbR
    rw [List.map_append,List.map_append]
    rfl
   ·rintro _ σ H4 ⟨o,rfl,sm,h4⟩
    rw [lx,List.take_length] at h4
    exact g D H4 sm h4
  have cne:∀ i,zbR i rs≠[]:=fun i z=>ne (List.map_eq_nil_iff.mp z)
  cases a with
  | count =>
   obtain ⟨t,rfl,ht⟩:=hv
   refine ⟨_,rfl,ixTc ht rfl ⟨rfl,_,rfl,zaF ?_⟩⟩
   exact ⟨_,rfl,l,xs,rfl,.inl (SqL.of hl),k _ H (Same.refl H) (by rw [lx];rfl)⟩
  | sum i =>
   obtain ⟨t,rfl,ht⟩:=hv
   refine ⟨_,rfl,ixTc ht rfl ⟨rfl,_,rfl,iteSF (by decide +kernel) ?_⟩⟩
   refine col t _ i _ ht ok fun D H' sm hD=>?_
   refine ⟨_,rfl,ixTc (sm _ _ ht) rfl ⟨rfl,_,rfl,zaF ?_⟩⟩
   exact ⟨_,rfl,D,_,rfl,SqL.of hD,k _ H' sm rfl⟩
  | least i =>
   obtain ⟨t,rfl,ht⟩:=hv
   refine ⟨_,rfl,ixTc ht rfl ⟨rfl,_,rfl,iteSF (by decide +kernel) ?_⟩⟩
   refine col t _ i _ ht ok fun D H' sm hD=>?_
   refine ⟨_,rfl,ixTc (sm _ _ ht) rfl ⟨rfl,_,rfl,iteSF (by decide +kernel) ?_⟩⟩
   refine ⟨_,rfl,D,zbR i rs,rfl,SqL.of hD,by unfold zbR;rw [List.length_map];exact l9,fun D2 ns hD2 pm srt=>?_⟩
   have s7:Same H' (upd H' D2 (.lst (ns.map V.int))):=(Same.refl H').upd hD2
   have u7:upd H' D2 (.lst (ns.map V.int)) D2=some (.lst (ns.map V.int)):=zaa
   generalize upd H' D2 (.lst (ns.map V.int))=H7 at s7 u7 ⊢
   have nne:0<ns.length:=by rw [pm.length_eq];exact List.length_pos_iff.mpr (cne i)
   obtain ⟨x,ns',rfl⟩ : ∃ x l,ns=x::l:=by cases ns with | nil=>simp at nne | cons x l=>exact ⟨x,l,rfl⟩
   refine ⟨_,_,rfl,rfl,_,rfl,ixTc (s7 _ _ (sm _ _ ht)) rfl ⟨rfl,_,rfl,_,_,rfl,rfl,.inr ⟨by decide,by decide⟩,ixL u7 (show atI ((x::ns').map V.int) ((0:Nat) : Int)=some (.int x) from za1 rfl) ?_⟩⟩
   refine k x H7 (sm.trans s7) ⟨pm.mem_iff.mp List.mem_cons_self,fun a ha=>?_⟩
   rcases List.mem_cons.mp (pm.mem_iff.mpr ha) with z | z
   ·rw [z];exact Int.le_refl _
   ·exact (List.pairwise_cons.mp srt).1 a z
  | greatest i =>
   obtain ⟨t,rfl,ht⟩:=hv
   refine ⟨_,rfl,ixTc ht rfl ⟨rfl,_,rfl,iteSF (by decide +kernel) ?_⟩⟩
   refine col t _ i _ ht ok fun D H' sm hD=>?_
   refine ⟨_,rfl,ixTc (sm _ _ ht) rfl ⟨rfl,_,rfl,iteSF (by decide +kernel) ?_⟩⟩
   refine ⟨_,rfl,D,zbR i rs,rfl,SqL.of hD,by unfold zbR;rw [List.length_map];exact l9,fun D2 ns hD2 pm srt=>?_⟩
   have s7:Same H' (upd H' D2 (.lst (ns.map V.int))):=(Same.refl H').upd hD2
   have u7:upd H' D2 (.lst (ns.map V.int)) D2=some (.lst (ns.map V.int)):=zaa
   generalize upd H' D2 (.lst (ns.map V.int))=H7 at s7 u7 ⊢
   have nne:0<ns.length:=by rw [pm.length_eq];exact List.length_pos_iff.mpr (cne i)
   refine ⟨_,_,rfl,rfl,_,rfl,ixTc (s7 _ _ (sm _ _ ht)) rfl ⟨rfl,_,rfl,_,_,rfl,rfl,.inr ⟨by decide,by decide⟩,ixL u7 (zjV (v:=V.int (ns.getLast (List.length_pos_iff.mp nne))) (by simp [List.getLast_eq_getElem]) (by rw [List.length_map];exact nne)) ?_⟩⟩
   refine k _ H7 (sm.trans s7) ⟨pm.mem_iff.mp (List.getLast_mem _),fun a ha=>?_⟩
   have ha':=pm.mem_iff.mpr ha
   obtain ⟨n,hn,rfl⟩:=List.mem_iff_getElem.mp ha'
   rw [List.getLast_eq_getElem]
   by_cases z:n=ns.length-1
   ·subst z;exact Int.le_refl _
   ·exact List.pairwise_iff_getElem.mp srt n (ns.length-1) hn (by lia) (by lia)
end
def Srt (ls:List (List Int)) : Prop:=ls.Pairwise fun a b=>lexI a b=true
theorem zjM {a b:List Int}(h:lexI a b=true) : lexI b a=false:=by
 cases e:lexI b a with
 | false=>rfl
 | true=>have:=zcq h e;rw [zdQ] at this;cases this
theorem Srt.lines {ls:List (List Int)}(h:Srt ls) : LinesOf ls ls :=
 ⟨List.Pairwise.imp (fun h=>zjM h) h,List.Pairwise.imp (fun {a b} h e=>by rw [e,zdQ] at h;cases h) h,fun r=>Iff.rfl⟩
theorem LinesOf.srt {ks ls:List (List Int)}(h:LinesOf ks ls) : Srt ls:=by
 have nd:=h.nd
 refine List.Pairwise.imp (fun {a b} ⟨h1,h2⟩=>?_) (h.ord.and nd)
 cases e:lexI a b with
 | true=>rfl
 | false=>exact absurd (zby e h1) h2
theorem LinesOf.self {ks ls:List (List Int)}(h:LinesOf ks ls)(s:Srt ks) : ls=ks:=h.uniq s.lines fun _=>Iff.rfl
theorem zfn {c d:List Int} : ∀ {a b:List Int},a.length=b.length->lexI a b=true->lexI (a++c) (b++d)=true
 | [],[],_,h=>by cases h
 | [],_::_,e,_=>by simp at e
 | _::_,[],e,_=>by simp at e
 | x::a,y::b,e,h=>by
  simp only [lexI,List.cons_append] at h ⊢
  by_cases z:x=y
  ·rw [if_pos z] at h ⊢;exact zfn (by simpa using e) h
  ·rw [if_neg z] at h ⊢;exact h
theorem zhu {c d:List Int} : ∀ {a:List Int},lexI (a++c) (a++d)=lexI c d
 | []=>rfl
 | x::a=>by simp only [lexI,List.cons_append,if_pos];exact zhu (a:=a)
theorem Srt.prod {L:Nat}{ts:List (List Int)}(ht:Srt ts) : ∀ {rs:List (List Int)},Srt rs->(∀ r∈rs,r.length=L)->Srt (zck rs ts)
 | [],_,_=>.nil
 | r::rs,h,hl=>by
  have h:=List.pairwise_cons.mp h
  show Srt (ts.map (r++·)++zck rs ts)
  refine List.pairwise_append.mpr ⟨List.pairwise_map.mpr (List.Pairwise.imp (fun {a b} z=>by rw [zhu];exact z) ht),Srt.prod ht h.2 fun x hx=>hl x (List.mem_cons_of_mem _ hx),fun x hx y hy=>?_⟩
  obtain ⟨c,_,rfl⟩:=List.mem_map.mp hx
  unfold zck at hy
  obtain ⟨r',hr',hy⟩:=List.mem_flatMap.mp hy
  obtain ⟨d,_,rfl⟩:=List.mem_map.mp hy
  exact zfn (by rw [hl r List.mem_cons_self,hl r' (List.mem_cons_of_mem _ hr')]) (h.1 r' hr')
theorem zgp {rs ts:List (List Int)}{x:List Int} : x∈zck rs ts↔∃ r∈rs,∃ t∈ts,x=r++t:=by
 unfold zck
 rw [List.mem_flatMap]
 constructor
 ·rintro ⟨r,hr,hx⟩
  obtain ⟨t,ht,rfl⟩:=List.mem_map.mp hx
  exact ⟨r,hr,t,ht,rfl⟩
 ·rintro ⟨r,hr,t,ht,rfl⟩
  exact ⟨r,hr,List.mem_map_of_mem ht⟩
section
variable {cs:List Nat}{ag:List Sm}{rs out out' ks ks':List (List Int)}
theorem Grpd.lines (h:Grpd cs ag rs out ks) : LinesOf (rs.map (pick cs)) ks:=⟨h.ord,h.nd,fun r=>by rw [h.mem,List.mem_map]⟩
theorem Grpd.uniq (h:Grpd cs ag rs out ks)(h':Grpd cs ag rs out' ks') : out=out':=by
 have e:ks=ks':=h.lines.uniq h'.lines fun _=>Iff.rfl
 subst e
 have inner:∀ {k:List Int} {ag:List Sm} {ns ms:List Int},Paired (fun m a=>Sm.is (grp cs rs k) a m) ns ag->Paired (fun m a=>Sm.is (grp cs rs k) a m) ms ag->ns=ms:=by
  intro k ag ns ms p
  induction p generalizing ms with
  | nil=>intro q;cases q;rfl
  | cons r _ ih=>intro q;cases q with | cons r' q=>rw [Sm.uniq r r',ih q]
 have go:∀ {out out' ks:List (List Int)},Paired (fun o k=>∃ ns,o=k++ns/\Paired (fun m a=>Sm.is (grp cs rs k) a m) ns ag) out ks->Paired (fun o k=>∃ ns,o=k++ns/\Paired (fun m a=>Sm.is (grp cs rs k) a m) ns ag) out' ks->out=out':=by
  intro out out' ks p
  induction p generalizing out' with
  | nil=>intro q;cases q;rfl
  | cons r _ ih =>
   intro q
   cases q with
   | cons r' q =>
    obtain ⟨ns,rfl,a⟩:=r
    obtain ⟨ms,rfl,b⟩:=r'
    rw [inner a b,ih q]
 exact go h.row h'.row
theorem Grpd.wid (h:Grpd cs ag rs out ks) : ∀ o∈out,o.length=cs.length+ag.length:=by
 intro o ho
 obtain ⟨k,hk,ns,rfl,p⟩:=zdo h.row ho
 obtain ⟨r,_,rfl⟩:=(h.mem k).mp hk
 rw [List.length_append,zaW,Paired.length p]
theorem Grpd.few (h:Grpd cs ag rs out ks) : out.length<=rs.length:=by
 rw [Paired.length h.row]
 have:=zaB h.nd (m:=rs.map (pick cs)) fun x hx=>by
  obtain ⟨r,hr,e⟩:=(h.mem x).mp hx
  exact List.mem_map.mpr ⟨r,hr,e⟩
 rwa [List.length_map] at this
theorem Grpd.srt (h:Grpd cs ag rs out ks) : Srt out:=by
 have kl:∀ k∈ks,k.length=cs.length:=fun k hk=>by obtain ⟨r,_,rfl⟩:=(h.mem k).mp hk;exact zaW _ _
 have ss:Srt ks:=h.lines.srt
 have go:∀ {out ks:List (List Int)},Paired (fun o k=>∃ ns,o=k++ns/\Paired (fun m a=>Sm.is (grp cs rs k) a m) ns ag) out ks->Srt ks->(∀ k∈ks,k.length=cs.length)->Srt out:=by
  intro out ks p
  induction p with
  | nil=>intro _ _;exact .nil
  | @cons o k out ks r p ih =>
   intro s l
   have s:=List.pairwise_cons.mp s
   refine List.pairwise_cons.mpr ⟨fun o' ho'=>?_,ih s.2 fun x hx=>l x (List.mem_cons_of_mem _ hx)⟩
   obtain ⟨k',hk',ns',rfl,_⟩:=zdo p ho'
   obtain ⟨ns,rfl,_⟩:=r
   exact zfn (by rw [l k List.mem_cons_self,l k' (List.mem_cons_of_mem _ hk')]) (s.1 k' hk')
 exact go h.row ss kl
end
def Qn.w (W:Str->Nat) : Qn->Nat
 | .table z=>W z
 | .pick _ q=>q.w W
 | .columns cs _=>cs.length
 | .group cs ag _=>cs.length+ag.length
 | .two o a b=>match o with
  | .join=>a.w W+b.w W
  | _=>a.w W
def Qn.most:Qn->Nat
 | .table _=>5
 | .pick _ q=>q.most
 | .columns _ q=>q.most
 | .group _ _ q=>q.most
 | .two o a b=>match o with
  | .join=>a.most*b.most
  | .union=>a.most+b.most
  | _=>a.most
def Qn.ok (W:Str->Nat)(N:List Str) : Qn->Prop
 | .table z=>z∈N
 | .pick c q=>c.ok (q.w W)/\c.deep<=2/\q.most<=60/\q.ok W N
 | .columns cs q=>(∀ i∈cs,i<q.w W)/\cs≠[]/\cs.length<=10/\q.most<=60/\q.ok W N
 | .group cs ag q=>(∀ i∈cs,i<q.w W)/\(∀ a∈ag,a.ok (q.w W))/\cs.length<=10/\ag.length<=10/\0<cs.length+ag.length/\q.most<=60/\q.ok W N
 | .two o a b=>a.ok W N/\b.ok W N/\a.w W<=10/\b.w W<=10/\match o with
  | .join=>a.most<=20/\b.most<=20
  | _=>a.w W=b.w W/\a.most<=60/\b.most<=60
structure Tbs (W:Str->Nat) (T:Str->List (List Int)) (N:List Str) : Prop where
 few:∀ z∈N,(T z).length<=5
 wid:∀ z∈N,∀ r∈T z,r.length=W z
 pos:∀ z∈N,1<=W z/\W z<=3
 srt:∀ z∈N,Srt (T z)
def Two:Op2->List (List Int)->List (List Int)->List (List Int)->Prop
 | .join,ra,rb,rs=>rs=zck ra rb
 | .union,ra,rb,rs=>LinesOf (ra++rb) rs
 | .common,ra,rb,rs=>LinesOf (ra.filter fun r=>decide (r∈rb)) rs
 | .less,ra,rb,rs=>LinesOf (ra.filter fun r=>decide (r∉rb)) rs
def Ans (T:Str->List (List Int)) : Qn->List (List Int)->Prop
 | .table z,rs=>rs=T z
 | .pick c q,rs=>∃ r0,Ans T q r0/\rs=r0.filter c.sem
 | .columns cs q,rs=>∃ r0,Ans T q r0/\LinesOf (r0.map (pick cs)) rs
 | .group cs ag q,rs=>∃ r0 ks,Ans T q r0/\Grpd cs ag r0 rs ks
 | .two o a b,rs=>∃ ra rb,Ans T a ra/\Ans T b rb/\Two o ra rb rs
theorem Two.uniq {o:Op2}{ra rb rs rs':List (List Int)}(h:Two o ra rb rs)(h':Two o ra rb rs') : rs=rs':=by
 cases o with
 | join=>exact Eq.trans h (Eq.symm h')
 | union=>exact LinesOf.uniq h h' fun _=>Iff.rfl
 | common=>exact LinesOf.uniq h h' fun _=>Iff.rfl
 | less=>exact LinesOf.uniq h h' fun _=>Iff.rfl
theorem Ans.uniq {T:Str->List (List Int)} : ∀ {q:Qn} {rs rs':List (List Int)},Ans T q rs->Ans T q rs'->rs=rs':=by
 intro q
 induction q with
 | table z=>intro rs rs' h h';exact Eq.trans h (Eq.symm h')
 | pick c q ih=>rintro rs rs' ⟨r0,a,rfl⟩ ⟨r1,b,rfl⟩;rw [ih a b]
 | columns cs q ih=>rintro rs rs' ⟨r0,a,h⟩ ⟨r1,b,h'⟩;rw [ih a b] at h;exact h.uniq h' fun _=>Iff.rfl
 | group cs ag q ih=>rintro rs rs' ⟨r0,ks,a,h⟩ ⟨r1,ks',b,h'⟩;rw [ih a b] at h;exact h.uniq h'
 | two o a b iha ihb=>rintro rs rs' ⟨ra,rb,h1,h2,h3⟩ ⟨ra',rb',h1',h2',h3'⟩;rw [iha h1 h1',ihb h2 h2'] at h3;exact h3.uniq h3'
section
variable {W:Str->Nat}{T:Str->List (List Int)}{N:List Str}{q:Qn}{rs:List (List Int)}
theorem Qn.ok.pos (tb:Tbs W T N)(h:q.ok W N) : 1<=q.w W/\q.w W<=20:=by
 induction q with
 | table z=>have:=tb.pos z h;exact ⟨this.1,Nat.le_trans this.2 (by decide)⟩
 | pick c q ih=>exact ih h.2.2.2
 | columns cs q ih=>exact ⟨List.length_pos_iff.mpr h.2.1,Nat.le_trans h.2.2.1 (by decide)⟩
 | group cs ag q ih =>
  have h1:=h.2.2.1;have h2:=h.2.2.2.1;have h3:=h.2.2.2.2.1
  exact ⟨h3,by show cs.length+ag.length<=20;lia⟩
 | two o a b iha ihb =>
  obtain ⟨oa,ob,la,lb,_⟩:=h
  have pa:=iha oa
  have pb:=ihb ob
  cases o with
  | join=>exact ⟨by show 1<=a.w W+b.w W;lia,by show a.w W+b.w W<=20;lia⟩
  | _=>exact pa
theorem zgh {ks ls:List (List Int)}(h:LinesOf ks ls) : ls.length<=ks.length:=zaB h.nd fun x hx=>(h.mem x).mp hx
theorem Two.good {o:Op2}{a b:Qn}{ra rb:List (List Int)}(h:Two o ra rb rs)(ok:(Qn.two o a b).ok W N)(la:ra.length<=a.most)(lb:rb.length<=b.most)(wa:∀ r∈ra,r.length=a.w W)(wb:∀ r∈rb,r.length=b.w W)(sa:Srt ra)(sb:Srt rb) :
  rs.length<=(Qn.two o a b).most/\(∀ r∈rs,r.length=(Qn.two o a b).w W)/\Srt rs:=by
 obtain ⟨_,_,_,_,m⟩:=ok
 have filt:∀ (p:List Int->Bool) rs,LinesOf (ra.filter p) rs->rs.length<=a.most/\(∀ r∈rs,r.length=a.w W)/\Srt rs:=fun p rs h =>
  ⟨Nat.le_trans (zgh h) (Nat.le_trans (List.length_filter_le _ _) la),fun r hr=>wa r (List.mem_filter.mp ((h.mem r).mp hr)).1,h.srt⟩
 cases o with
 | join =>
  have h:rs=zck ra rb:=h
  subst h
  refine ⟨by rw [zc7];exact Nat.mul_le_mul la lb,fun r hr=>?_,sb.prod sa wa⟩
  obtain ⟨x,hx,y,hy,rfl⟩:=zgp.mp hr
  rw [List.length_append,wa x hx,wb y hy];rfl
 | union =>
  have h:LinesOf (ra++rb) rs:=h
  refine ⟨Nat.le_trans (zgh h) (by rw [List.length_append];exact Nat.add_le_add la lb),fun r hr=>?_,h.srt⟩
  rcases List.mem_append.mp ((h.mem r).mp hr) with z | z
  ·exact wa r z
  ·rw [wb r z];exact m.1.symm
 | common=>exact filt _ rs h
 | less=>exact filt _ rs h
theorem Ans.good (tb:Tbs W T N)(ok:q.ok W N)(h:Ans T q rs) : rs.length<=q.most/\(∀ r∈rs,r.length=q.w W)/\Srt rs:=by
 induction q generalizing rs with
 | table z =>
  have h:rs=T z:=h
  subst h
  exact ⟨tb.few z ok,tb.wid z ok,tb.srt z ok⟩
 | pick c q ih =>
  obtain ⟨r0,a,rfl⟩:=h
  obtain ⟨h1,h2,h3⟩:=ih ok.2.2.2 a
  exact ⟨Nat.le_trans (List.length_filter_le _ _) h1,fun r hr=>h2 r (List.mem_filter.mp hr).1,h3.sublist List.filter_sublist⟩
 | columns cs q ih =>
  obtain ⟨r0,a,h⟩:=h
  obtain ⟨h1,h2,h3⟩:=ih ok.2.2.2.2 a
  refine ⟨Nat.le_trans (zgh h) (by rw [List.length_map];exact h1),fun r hr=>?_,h.srt⟩
  obtain ⟨x,_,rfl⟩:=List.mem_map.mp ((h.mem r).mp hr)
  exact zaW _ _
 | group cs ag q ih =>
  obtain ⟨r0,ks,a,h⟩:=h
  obtain ⟨h1,h2,h3⟩:=ih ok.2.2.2.2.2.2 a
  exact ⟨Nat.le_trans h.few h1,h.wid,h.srt⟩
 | two o a b iha ihb =>
  obtain ⟨ra,rb,h1,h2,h3⟩:=h
  obtain ⟨a1,a2,a3⟩:=iha ok.1 h1
  obtain ⟨b1,b2,b3⟩:=ihb ok.2.1 h2
  exact h3.good ok a1 b1 a2 b2 a3 b3
end
def RowsAt (H:Hp)(v:V)(rs:List (List Int)) : Prop:=∃ l xs,v=.ref l/\H l=some (.lst xs)/\Paired (RowAt H) xs rs
theorem RowsAt.same {H H':Hp}{v:V}{rs:List (List Int)}(s:Same H H')(h:RowsAt H v rs) : RowsAt H' v rs:=let ⟨l,xs,a,b,c⟩:=h;⟨l,xs,a,s _ _ b,Paired.mapP c fun _ _ z=>RowAt.same s z⟩
def Qn.isT:Qn->Bool
 | .table _=>true
 | _=>false
theorem zh0 {W:Str->Nat}{N:List Str}{q r:Qn}(h:q.ok W N)(hr:r∈q.parts) : r.ok W N/\r.deep<q.deep:=by
 cases q with
 | table z=>cases hr
 | pick c q=>rw [List.mem_singleton.mp hr];exact ⟨h.2.2.2,Nat.lt_succ_self _⟩
 | columns cs q=>rw [List.mem_singleton.mp hr];exact ⟨h.2.2.2.2,Nat.lt_succ_self _⟩
 | group cs ag q=>rw [List.mem_singleton.mp hr];exact ⟨h.2.2.2.2.2.2,Nat.lt_succ_self _⟩
 | two o a b =>
  have hr':r=a\/r=b:=by simpa [Qn.parts] using hr
  rcases hr' with rfl | rfl
  ·exact ⟨h.1,Nat.lt_succ_of_le (Nat.le_max_left _ _)⟩
  ·exact ⟨h.2.1,Nat.lt_succ_of_le (Nat.le_max_right _ _)⟩
theorem zih {α β:Type}{R:α->β->Prop}{xs:List α}{y:β}(h:Paired R xs [y]) : ∃ x,xs=[x]/\R x y:=by
 cases h with | cons r t=>cases t;exact ⟨_,rfl,r⟩
theorem zm8 {α β:Type}{R:α->β->Prop}{xs:List α}{y z:β}(h:Paired R xs [y,z]) : ∃ x x',xs=[x,x']/\R x y/\R x' z:=by
 cases h with | cons r t=>cases t with | cons r' t=>cases t;exact ⟨_,_,rfl,r,r'⟩
section
variable {P:Program}{w:World}{K:PySem.W.Frag}{mg:Str->Option Value}{base:Heap}
theorem zfi {keep:List (List Int)->List (List Int)->List Int->Prop}{p a b:Addr}{v2:V}{xs ys:List V}{rs ts:List (List Int)}{σ:St}{H:Hp}{D:Ends}
  (hσ:σ[1]?=some (some (.ref p))) (hp:H p=some (.lst [.ref a,.ref b])) (ha:H a=some (.lst xs)) (hb:H b=some (.lst ys)) (pr:Paired (RowAt H) xs rs) (pt:Paired (RowAt H) ys ts) (n1:∀ r∈rs,r≠[]) (n2:∀ r∈ts,r≠[]) (l1:rs.length<=60) (l2:ts.length<=60)
  (hk:∀ n m,(∀ k,k∈n↔k∈rs)->(∀ k,k∈m↔k∈ts)->∀ k,keep n m k↔keep rs ts k)
  (k:∀ (r:Addr) (H':Hp) (zs:List V) (ks:List (List Int)),Same H H'->H r=none->H' r=some (.lst zs)->Paired (RowAt H') zs ks->(ks.Pairwise fun a b=>lexI b a=false)->ks.Nodup->(∀ x,x∈ks↔keep rs ts x)->D.rt (.ref r) H') :
  tRet (tCB (zfM P w) (zaf (tOp (rOpR P w keep) (tCB (zkB P w K) (zaf (tOp (rIxL K) (tVar 1) (tC (.int 0))) tNil)) (tCB (zkB P w K) (zaf (tOp (rIxL K) (tVar 1) (tC (.int 1))) tNil))) tNil)) D σ H:=by
 refine ⟨_,hσ,ixLc hp rfl ⟨a,xs,rs,rs,rfl,SqL.of ha,pr,fun _ h=>h,by lia,fun D1 ps hD1 mem1 nd1 rp1=>?_⟩⟩
 obtain ⟨H1,e,s1,u1⟩:=fresh (zcm P w D1 ps) hD1;rw [e];clear e
 refine ⟨_,hσ,ixLc (s1 _ _ hp) rfl ⟨b,ys,ts,ts,rfl,SqL.of (s1 _ _ hb),rS s1 pt,fun _ h=>h,by lia,fun D2 qs hD2 mem2 nd2 rp2=>?_⟩⟩
 have s2:Same H1 (upd H1 D2 (zcm P w D2 qs)):=(Same.refl H1).upd hD2
 have u2:upd H1 D2 (zcm P w D2 qs) D2=some (zcm P w D2 qs):=zaa
 have ne:D1≠D2:=fun z=>by rw [<- z,u1] at hD2;cases hD2
 generalize upd H1 D2 (zcm P w D2 qs)=H2 at s2 u2 ⊢
 have lp:ps.length<=rs.length:=by
  have:=zaB nd1 fun x hx=>(mem1 x).mp hx
  rwa [List.length_map] at this
 have lq:qs.length<=ts.length:=by
  have:=zaB nd2 fun x hx=>(mem2 x).mp hx
  rwa [List.length_map] at this
 refine ⟨D1,D2,ps,qs,rfl,rfl,ne,s2 _ _ u1,u2,fun x hx=>s2 _ _ (s1 _ _ (rp1 x hx)),fun x hx=>s2 _ _ (rp2 x hx),by lia,fun D3 ks hD3 mem3 nd3 rp3 fr=>?_⟩
 obtain ⟨H3,e,s3,u3⟩:=fresh (zgm P w D3 ks) hD3;rw [e];clear e
 have s13:=s1.trans (s2.trans s3)
 have ine:∀ x∈ks,x.1≠[]:=fun x hx=>by
  rcases fr x hx with z | z
  ·exact n1 _ ((mem1 _).mp (List.mem_map_of_mem z))
  ·exact n2 _ ((mem2 _).mp (List.mem_map_of_mem z))
 have l3:ks.length<=rs.length+ts.length:=by
  have:=zaB nd3 (m:=rs++ts) fun x hx=>by
   obtain ⟨y,hy,rfl⟩:=List.mem_map.mp hx
   rcases fr y hy with z | z
   ·exact List.mem_append_left _ ((mem1 _).mp (List.mem_map_of_mem z))
   ·exact List.mem_append_right _ ((mem2 _).mp (List.mem_map_of_mem z))
  rwa [List.length_map,List.length_append] at this
 refine ⟨D3,ks,rfl,.inr u3,fun x hx=>s3 _ _ (rp3 x hx),ine,by lia,fun D4 zs os hD4 pz pm ord=>?_⟩
 have s4:Same H3 (upd H3 D4 (.lst zs)):=(Same.refl H3).upd hD4
 refine k D4 _ zs os (s13.trans s4) (s13.free hD4) zaa (rS s4 pz) ord (pm.nodup_iff.mpr nd3) fun x=>?_
 rw [pm.mem_iff,mem3]
 exact hk _ _ mem1 mem2 x
def zda:Sp:=fun vs H Q _=>∃ (v:V) (p:Addr) (q:Qn) (ps:List V) (rss:List (List (List Int))) (W:Str->Nat) (T:Str->List (List Int)) (N:List Str),vs=[v,.ref p]/\QAt H v q/\q.ok W N/\Tbs W T N/\q.isT=false/\H p=some (.lst ps)/\Paired (RowsAt H) ps rss/\Paired (fun rs x=>Ans T x rs) rss q.parts /\
 ∀ (r:Addr) (H':Hp) (xs:List V) (rs:List (List Int)),Same H H'->H r=none->H' r=some (.lst xs)->Paired (RowAt H') xs rs->Ans T q rs->Q (.ref r) H'
theorem zde:FnScope ["question","within","kind"] ["question","within"] (zad zdg):=by walk_at "sc"
theorem zfj {f:Addr}{fd:FuncData}(F:Fun K "plain_over" "plain_over" zdg f fd)(B:Blts mg)(FM:FnP P w K mg base 3 "meets" ["condition","row"] (zb7 3))(FC:FnP P w K mg base 1 "cells_in" ["row","columns"] zbH)(FG:FnP P w K mg base 3 "grouped" ["columns","sums","rows"] zcr)(FE:FnP P w K mg base 1 "each_with_each" ["one","other"] zbw) : FnOk P w K mg base CX0 4 f fd ["question","within"] zda:=by
 refine F.okJ zde (fun vs H Q E h=>?_) (fun cdv A outer s H vs Q E hr h=>?_)
 ·obtain ⟨_,_,_,_,_,_,_,_,rfl,_⟩:=h
  rfl
 ·obtain ⟨v,p,q,ps,rss,W,T,N,rfl,hq,ok,tb,nt,hp,pp,pa,k⟩:=h
  have nd:=zde.nd
  have nd2:(["row","question"] : List Str).Nodup:=by decide +kernel
  refine ⟨_,(zab (zar 2 nd (e_ix zag (e_v 0) e_i))
   (zab (s_if (zap o_eq (e_v 2) e_s) (zac (zaj (zaP (Nc:=["row","question"]) (js:=[none,some 0]) (g:=(zas 0)) (tt:=(tB (zbp (zb7 3) [] E0 (zaf (tOp (rIxT K) (tVar 1) (tC (.int 1))) (zaf (tVar 0) tNil))))) (te:=(tVar 0))
    (zat rfl rfl rfl rfl (fun x c h=>by (obtain ⟨rfl,rfl⟩ : x=_/\c=_:=(by simpa using h));rfl) rfl rfl rfl) (zaz (e_ix zaw (e_v 1) e_i))
    (fun pins C s3 H3 fp=>⟨(g_n 0 nd2),.inr ⟨_,rfl,(zgz (e_fn FM hr (ac (e_ix zag (e_v 1) e_i) (a1 (e_v 0)))))⟩,(e_v 0)⟩)))) zaq)
   (zab (s_if (zap o_eq (e_v 2) e_s) (zac (zaj (e_cb (zdS) B.sorted PyProof.Rows.boot_sorted (a1 (e_ct (zeq (hr:=hr)) B.set PyProof.Rows.boot_set (a1c (zaP (Nc:=["row","question"]) (js:=[none,some 0]) (g:=(zas 0)) (tt:=tYes) (te:=(zbp zbH [] E0 (zaf (tVar 0) (zaf (tOp (rIxT K) (tVar 1) (tC (.int 1))) tNil))))
    (zat rfl rfl rfl rfl (fun x c h=>by (obtain ⟨rfl,rfl⟩ : x=_/\c=_:=(by simpa using h));rfl) rfl rfl rfl) (zaz (e_ix zaw (e_v 1) e_i))
    (fun pins C s3 H3 fp=>⟨(g_n 0 nd2),.inl ⟨rfl,rfl⟩,(e_fn FC hr (ac (e_v 0) (a1 (e_ix zag (e_v 1) e_i))))⟩)))))))) zaq)
   (zab (s_if (zap o_eq (e_v 2) e_s) (zac (zaj (e_fn FG hr (ac (e_ix zag (e_v 0) e_i) (ac (e_ix zag (e_v 0) e_i) (a1 (e_ix zaw (e_v 1) e_i))))))) zaq)
   (zab (s_if (zap o_eq (e_v 2) e_s) (zac (zaj (e_fn FE hr (ac (e_ix zaw (e_v 1) e_i) (a1 (e_ix zaw (e_v 1) e_i)))))) zaq)
   (zab (s_if (zap o_eq (e_v 2) e_s) (zac (zaj (e_cb (zdS) B.sorted PyProof.Rows.boot_sorted (a1 (e_op (zn2 hr) (e_ct (zeq (hr:=hr)) B.set PyProof.Rows.boot_set (a1 (e_ix zaw (e_v 1) e_i))) (e_ct (zeq (hr:=hr)) B.set PyProof.Rows.boot_set (a1 (e_ix zaw (e_v 1) e_i)))))))) zaq)
   (zab (s_if (zap o_eq (e_v 2) e_s) (zac (zaj (e_cb (zdS) B.sorted PyProof.Rows.boot_sorted (a1 (e_op (zmq hr) (e_ct (zeq (hr:=hr)) B.set PyProof.Rows.boot_set (a1 (e_ix zaw (e_v 1) e_i))) (e_ct (zeq (hr:=hr)) B.set PyProof.Rows.boot_set (a1 (e_ix zaw (e_v 1) e_i)))))))) zaq)
   (zac (zaj (e_cb (zdS) B.sorted PyProof.Rows.boot_sorted (a1 (e_op (zno hr) (e_ct (zeq (hr:=hr)) B.set PyProof.Rows.boot_set (a1 (e_ix zaw (e_v 1) e_i))) (e_ct (zeq (hr:=hr)) B.set PyProof.Rows.boot_set (a1 (e_ix zaw (e_v 1) e_i))))))))))))))),?_⟩
  cases q with
  | table z=>cases nt
  | pick c q =>
   obtain ⟨t,vc,vq,rfl,ht,hc,hq⟩:=hq
   obtain ⟨r0,rfl,A0⟩:=zih pa
   obtain ⟨_,rfl,l,xs,rfl,hl,pr⟩:=zih pp
   obtain ⟨g1,g2,g3⟩:=A0.good tb ok.2.2.2
   have lm:=ok.2.2.1
   have lx:xs.length=r0.length:=Paired.length pr
   refine ⟨_,rfl,ixTc ht rfl ?_⟩
   refine ⟨_,rfl,rfl,_,rfl,zaF ?_⟩
   exact ⟨_,rfl,ixLc hp rfl ⟨l,rfl,⟨_,SqL.of hl⟩,fun D hD=>zcb (f:=c.sem) hD hl pr (by lia) (fun H1 v r R s1 h hrm hR=>⟨_,rfl,ixTc (s1 _ _ ht) rfl ⟨_,rfl,vc,_,c,r,rfl,hc.same s1,h,by rw [g2 r hrm];exact ok.1,Nat.lt_succ_of_le ok.2.1,_,rfl,hR H1 (Same.refl H1)⟩⟩) fun H' us s' h' pu=>k D H' us _ s' hD h' pu ⟨r0,A0,rfl⟩⟩⟩
  | columns cs q =>
   obtain ⟨t,c,vq,rfl,ht,hc,hq⟩:=hq
   obtain ⟨r0,rfl,A0⟩:=zih pa
   obtain ⟨_,rfl,l,xs,rfl,hl,pr⟩:=zih pp
   obtain ⟨o1,o2,o3,o4,o5⟩:=ok
   obtain ⟨g1,g2,g3⟩:=A0.good tb o5
   have lx:xs.length=r0.length:=Paired.length pr
   refine ⟨_,rfl,ixTc ht rfl ?_⟩
   walk_at "f"
   refine ⟨_,rfl,rfl,_,rfl,zaF ?_⟩
   refine ⟨_,rfl,ixLc hp rfl ⟨l,rfl,⟨_,SqL.of hl⟩,fun D hD=>?_⟩⟩
   refine zdT (f:=pick cs) hD hl pr (by lia) (fun H1 v r R s1 ⟨u,e,hu⟩ hrm kk=>?_) fun H4 us sm h4 pu=>?_
   ·subst e
    exact ⟨_,rfl,_,rfl,ixTc (s1 _ _ ht) rfl ⟨u,c,r,cs,rfl,hu,s1 _ _ hc,fun i hi=>by rw [g2 r hrm];exact o1 i hi,by lia,fun e H5 s5 _ h5=>kk e H5 s5 h5⟩⟩
   ·refine ⟨D,us,r0.map (pick cs),r0.map (pick cs),rfl,SqL.of h4,pu,fun _ h=>h,by rw [List.length_map];lia,fun D1 ps1 hD1 mem1 nd1 rp1=>?_⟩
    have s1:Same H4 (upd H4 D1 (zcm P w D1 ps1)):=(Same.refl H4).upd hD1
    have u1:upd H4 D1 (zcm P w D1 ps1) D1=some (zcm P w D1 ps1):=zaa
    show zfM P w [.ref D1] (upd H4 D1 (zcm P w D1 ps1)) _
    generalize upd H4 D1 (zcm P w D1 ps1)=H1 at s1 u1 ⊢
    have lp:ps1.length<=r0.length:=by
     have:=zaB nd1 fun x hx=>(mem1 x).mp hx
     rwa [List.length_map,List.length_map] at this
    refine ⟨D1,ps1,rfl,.inl u1,fun x hx=>s1 _ _ (rp1 x hx),fun x hx z=>?_,by lia,fun D2 zs os hD2 pz pm ord=>?_⟩
    ·obtain ⟨r,hr',e⟩:=List.mem_map.mp ((mem1 x.1).mp (List.mem_map_of_mem hx))
     rw [z] at e
     have:=congrArg List.length e
     rw [zaW] at this
     exact o2 (List.length_eq_zero_iff.mp this)
    ·have s2:Same H1 (upd H1 D2 (.lst zs)):=(Same.refl H1).upd hD2
     refine k D2 _ zs os (sm.trans (s1.trans s2)) ((sm.trans s1).free hD2) zaa (rS s2 pz) ⟨r0,A0,ord,pm.nodup_iff.mpr nd1,fun x=>?_⟩
     rw [pm.mem_iff,mem1]
  | group cs ag q =>
   obtain ⟨t,c,m,ms,vq,rfl,ht,hc,hm,pm,hq⟩:=hq
   obtain ⟨r0,rfl,A0⟩:=zih pa
   obtain ⟨_,rfl,l,xs,rfl,hl,pr⟩:=zih pp
   obtain ⟨o1,o2,o3,o4,o5,o6,o7⟩:=ok
   obtain ⟨g1,g2,g3⟩:=A0.good tb o7
   refine ⟨_,rfl,ixTc ht rfl ?_⟩
   walk_at "f"
   walk_at "f"
   refine ⟨_,rfl,rfl,_,rfl,zaF ?_⟩
   refine ⟨_,rfl,ixTc ht rfl ⟨_,rfl,ixTc ht rfl ⟨_,rfl,ixLc hp rfl ?_⟩⟩⟩
   exact ⟨c,m,l,ms,xs,cs,ag,r0,q.w W,rfl,hc,hm,pm,hl,pr,g2,o1,o2,by lia,by lia,by lia,fun e H' zs out keys s' he h' pz G=>k e H' zs out s' he h' pz ⟨r0,keys,A0,G⟩⟩
  | two o a b =>
   obtain ⟨t,va,vb,rfl,ht,ha,hb⟩:=hq
   obtain ⟨ra,rb,rfl,A1,A2⟩:=zm8 pa
   obtain ⟨_,_,rfl,⟨la,xs,rfl,hla,pr⟩,⟨lb,ys,rfl,hlb,pt⟩⟩:=zm8 pp
   obtain ⟨oa,ob,wa,wb,m⟩:=ok
   obtain ⟨g1,g2,g3⟩:=A1.good tb oa
   obtain ⟨h1,h2,h3⟩:=A2.good tb ob
   have na:∀ r∈ra,r≠[]/\r.length<=50:=fun r hr'=>by
    have e:=g2 r hr';have o:=oa.pos tb
    exact ⟨fun z=>by rw [z] at e;simp at e;lia,by lia⟩
   have nb:∀ r∈rb,r≠[]/\r.length<=50:=fun r hr'=>by
    have e:=h2 r hr';have o:=ob.pos tb
    exact ⟨fun z=>by rw [z] at e;simp at e;lia,by lia⟩
   cases o with
   | join =>
    refine ⟨_,rfl,ixTc ht rfl ?_⟩
    walk_at "f"
    walk_at "f"
    walk_at "f"
    refine ⟨_,rfl,rfl,_,rfl,zaF ?_⟩
    refine ⟨_,rfl,ixLc hp rfl ⟨_,rfl,ixLc hp rfl ⟨la,lb,xs,ys,ra,rb,rfl,hla,hlb,pr,pt,na,nb,by have:=m.1;lia,by have:=m.2;lia,fun e H' zs s' he h' pz=>k e H' zs _ s' he h' pz ⟨ra,rb,A1,A2,rfl⟩⟩⟩⟩
   | union =>
    refine ⟨_,rfl,ixTc ht rfl ?_⟩
    walk_at "f"
    walk_at "f"
    walk_at "f"
    walk_at "f"
    refine ⟨_,rfl,rfl,_,rfl,zaF ?_⟩
    exact zfi (v2:=.non) rfl hp hla hlb pr pt (fun r hr'=>(na r hr').1) (fun r hr'=>(nb r hr').1) (by have:=m.2.1;lia) (by have:=m.2.2;lia) (fun n m e1 e2 x=>by rw [e1,e2]) fun r H' zs ks s' hr' h' pz ord nd' mem=>k r H' zs ks s' hr' h' pz ⟨ra,rb,A1,A2,ord,nd',fun x=>by rw [mem,List.mem_append]⟩
   | common =>
    refine ⟨_,rfl,ixTc ht rfl ?_⟩
    walk_at "f"
    walk_at "f"
    walk_at "f"
    walk_at "f"
    walk_at "f"
    refine ⟨_,rfl,rfl,_,rfl,zaF ?_⟩
    exact zfi (v2:=.non) rfl hp hla hlb pr pt (fun r hr'=>(na r hr').1) (fun r hr'=>(nb r hr').1) (by have:=m.2.1;lia) (by have:=m.2.2;lia) (fun n m e1 e2 x=>by rw [e1,e2]) fun r H' zs ks s' hr' h' pz ord nd' mem=>k r H' zs ks s' hr' h' pz ⟨ra,rb,A1,A2,ord,nd',fun x=>by rw [mem,List.mem_filter,decide_eq_true_iff]⟩
   | less =>
    refine ⟨_,rfl,ixTc ht rfl ?_⟩
    walk_at "f"
    walk_at "f"
    walk_at "f"
    walk_at "f"
    walk_at "f"
    walk_at "f"
    exact zfi (v2:=.non) rfl hp hla hlb pr pt (fun r hr'=>(na r hr').1) (fun r hr'=>(nb r hr').1) (by have:=m.2.1;lia) (by have:=m.2.2;lia) (fun n m e1 e2 x=>by rw [e1,e2]) fun r H' zs ks s' hr' h' pz ord nd' mem=>k r H' zs ks s' hr' h' pz ⟨ra,rb,A1,A2,ord,nd',fun x=>by rw [mem,List.mem_filter,decide_eq_true_iff]⟩
structure TabAt (H:Hp) (d:Addr) (T:Str->List (List Int)) (N:List Str) : Prop where
 tb:∀ z∈N,∃ v,DGet H d (.str z) (some v)/\RowsAt H v (T z)
theorem zf8 {H H':Hp}{d:Addr}{y:V}{o:Option V}(s:Same H H')(h:DGet H d y o) : DGet H' d y o:=by
 rcases h with ⟨kvs,k,r,e⟩ | ⟨kvs,k,b,r,e1,e2,e3⟩
 ·refine .inl ⟨kvs,k,?_,e⟩
  rcases r with r | ⟨o,r⟩
  ·exact .inl (s _ _ r)
  ·exact .inr ⟨o,s _ _ r⟩
 ·refine .inr ⟨kvs,k,b,?_,e1,s _ _ e2,e3⟩
  rcases r with r | ⟨o,r⟩
  ·exact .inl (s _ _ r)
  ·exact .inr ⟨o,s _ _ r⟩
theorem TabAt.same {H H':Hp}{d:Addr}{T:Str->List (List Int)}{N:List Str}(h:TabAt H d T N)(s:Same H H') : TabAt H' d T N :=
 ⟨fun z hz=>let ⟨v,a,b⟩:=h.tb z hz;⟨v,zf8 s a,b.same s⟩⟩
def zdV (n:Nat) : Sp:=fun vs H Q _=>∃ (v:V) (d:Addr) (q:Qn) (W:Str->Nat) (T:Str->List (List Int)) (N:List Str),vs=[v,.ref d]/\QAt H v q/\q.ok W N/\Tbs W T N/\q.deep<n/\TabAt H d T N /\
 ∀ (r:Addr) (H':Hp) (xs:List V) (rs:List (List Int)),Same H H'->H r=none->H' r=some (.lst xs)->Paired (RowAt H') xs rs->Ans T q rs->Q (.ref r) H'
theorem zhA:FnScope ["question","tables"] ["question","tables"] (zad zia):=by walk_at "sc"
theorem zig {f:Addr}{fd:FuncData}(F:Fun K "plain" "plain" zia f fd)(hm:mg "plain" = some (.ref f))(hk:PySem.W.keepIn K (.ref f)=true)(hb:Binds K fd ["question","tables"] [])(B:Blts mg)
  (FO:FnP P w K mg base 4 "plain_over" ["question","within"] zda) (FP:FnP P w K mg base 1 "parts_of" ["question"] zcH) : ∀ n,FnOk P w K mg base CX0 (n+5) f fd ["question","tables"] (zdV n)
 | 0=>FnOk.none fun _ _ _ _ ⟨_,_,_,_,_,_,_,_,_,_,h,_⟩=>absurd h (Nat.not_lt_zero _)
 | n + 1 => by
  have FW:FnP P w K mg base (n+5) "plain" ["question","tables"] (zdV n):=⟨f,fd,zig F hm hk hb B FO FP n,hm,hk,hb⟩
  refine F.okJ (k:=n+5) zhA (fun vs H Q E h=>?_) (fun cdv A outer s H vs Q E hr h=>?_)
  ·obtain ⟨_,_,_,_,_,_,rfl,_⟩:=h
   rfl
  ·obtain ⟨v,d,q,W,T,N,rfl,hq,ok,tb,dp,td,k⟩:=h
   have nd:=zhA.nd
   have nd2:(["part","tables"] : List Str).Nodup:=by decide +kernel
   refine ⟨_,(zab (s_if (zap o_eq (e_ix zag (e_v 0) e_i) e_s) (zac (zaj (e_ct zjN B.list PyProof.Rows.boot_list (a1 (zhz hr (e_v 1) (e_ix zag (e_v 0) e_i)))))) zaq)
    (zac (zaj (e_fn FO hr (ac (e_v 0) (a1c (zaP (Nc:=["part","tables"]) (js:=[none,some 1]) (g:=(zas 0)) (tt:=tYes) (te:=(zbp (zdV n) [] E0 (zaf (tVar 0) (zaf (tVar 1) tNil))))
    (zat rfl rfl rfl rfl (fun x c h=>by simp at h;rcases h with ⟨rfl,rfl⟩<;>rfl) rfl rfl rfl) (zaz (e_fn FP hr (a1 (e_v 0)) (by lia)))
    (fun pins C s3 H3 fp=>⟨(g_n 0 nd2),.inl ⟨rfl,rfl⟩,(e_fn FW hr (ac (e_v 0) (a1 (e_v 1))) (Nat.le_refl _))⟩)))) (by lia))))),?_⟩
   by_cases it:q.isT=true
   ·cases q with
    | table z =>
     obtain ⟨t,rfl,ht⟩:=hq
     obtain ⟨u,hg,l,xs,rfl,hl,pr⟩:=td.tb z ok
     refine ⟨_,rfl,ixTc ht rfl ⟨rfl,_,rfl,zaF ?_⟩⟩
     refine ⟨_,rfl,_,rfl,ixTc ht rfl ⟨d,_,rfl,hg,l,_,rfl,.inl (SqL.of hl),fun p hp=>?_⟩⟩
     have s1:Same H (upd H p (.lst xs)):=(Same.refl H).upd hp
     exact k p _ xs _ s1 hp zaa (rS s1 pr) rfl
    | _=>cases it
   ·have nt:q.isT=false:=by cases e:q.isT with | true=>exact absurd e it | false=>rfl
    have hd0:∃ (t:Addr) (kd:Str) (xs:List V),v=.ref t/\H t=some (.tup (.str kd::xs))/\kd ≠ "table" := by
     cases q with
     | table z=>cases nt
     | pick cd q=>obtain ⟨t,vc,vq,e,ht,_⟩:=hq;exact ⟨t,"pick", _,e,ht,by decide +kernel⟩
     | columns cs q=>obtain ⟨t,vc,vq,e,ht,_⟩:=hq;exact ⟨t,"columns", _,e,ht,by decide +kernel⟩
     | group cs ag q=>obtain ⟨t,_,_,_,_,e,ht,_⟩:=hq;exact ⟨t,"group", _,e,ht,by decide +kernel⟩
     | two o a b=>obtain ⟨t,va,vb,e,ht,_⟩:=hq;exact ⟨t,o.nm,_,e,ht,by cases o<;>decide +kernel⟩
    obtain ⟨t,kd,xs0,rfl,ht,nk⟩:=hd0
    refine ⟨_,rfl,ixTc ht (za1 (j:=0) (show (V.str kd::xs0)[0]?=some (V.str kd) from rfl)) ⟨rfl,_,rfl,iteSF nk ?_⟩⟩
    refine ⟨_,rfl,_,rfl,_,q,rfl,hq,fun p H1 xs s1 _ hp px=>⟨p,rfl,⟨_,SqL.of hp⟩,fun D hD=>?_⟩⟩
    have lx:xs.length=q.parts.length:=Paired.length px
    have lp:q.parts.length<=2:=by cases q<;>first | decide | (show 1<=2;decide) | (show 2<=2;decide) | (show 0<=2;decide)
    refine zaK (K:=K) (a:=p) (xs:=xs) (fun i _ σ H2=>∃ (o:Option V) (us:List V) (rss:List (List (List Int))),σ=[o,some (.ref d)]/\Same H1 H2/\H2 D=some (.lst us)/\Paired (RowsAt H2) us rss/\(∀ u∈us,u≠.ref D)/\Paired (fun rs x=>Ans T x rs) rss (q.parts.take i))
     ⟨none,[],[],rfl,(Same.refl H1).upd hD,zaa,.nil,(fun m h=>nomatch h),.nil⟩ (fun i _ σ H2 _ ⟨_,_,_,_,s2,_⟩=>SqL.of (s2 _ _ hp)) ?_ ?_
    ·rintro i x _ σ H2 hx ⟨o,us,rss,rfl,s2,h2,pu,nu,pa⟩
     obtain ⟨r,er',hr'⟩:=zan px hx
     have mr:=List.mem_of_getElem? er'
     obtain ⟨o1,o2⟩:=zh0 ok mr
     have hi:i<q.parts.length:=(List.getElem?_eq_some_iff.mp er').1
     have ln:us.length<=i:=by
      rw [Paired.length pu,Paired.length pa,List.length_take];lia
     refine ⟨_,rfl,_,rfl,x,d,r,W,T,N,rfl,hr'.same s2,o1,tb,by lia,(td.same s1).same s2,fun e H3 zs rs s3 he h3 pz an=>?_⟩
     have h2':=s3 _ _ h2
     have ne:e≠D:=fun z=>by rw [z,h2] at he;cases he
     have nt2:=zbW h2'
     refine ⟨_,h2',zah (by lia),[],_,us++[.ref e],rss++[rs],rfl,(s2.trans s3).upd hD,zaa,?_,fun u hu=>?_,?_⟩
     ·have keep:∀ {u:V} {rs:List (List Int)},u≠.ref D->RowsAt H3 u rs->RowsAt (upd H3 D (.lst (us++[.ref e]))) u rs:=fun {u rs} nu ⟨l,xs,a,b,c⟩=>⟨l,xs,a,by rw [zam (fun z=>nu (by rw [a,z]))];exact b,Paired.mapP c fun _ _ z=>zbf nt2 z⟩
      refine zak (R:=RowsAt _) (keep (fun z=>ne (V.ref.inj z)) ⟨e,zs,rfl,h3,pz⟩) ?_
      have go:∀ {us':List V} {rss:List (List (List Int))},Paired (RowsAt H2) us' rss->(∀ u∈us',u≠.ref D)->Paired (RowsAt (upd H3 D (.lst (us++[.ref e])))) us' rss:=fun {us' rss} p=>by
       induction p with
       | nil=>intro _;exact .nil
       | cons r _ ih=>intro h;exact .cons (keep (h _ List.mem_cons_self) (r.same s3)) (ih fun u hu=>h u (List.mem_cons_of_mem _ hu))
      exact go pu nu
     ·rcases List.mem_append.mp hu with z | z
      ·exact nu u z
      ·rw [List.mem_singleton.mp z];exact fun z=>ne (V.ref.inj z)
     ·rw [take_snoc er']
      exact zak (R:=fun rs x=>Ans T x rs) an pa
    ·rintro _ σ H2 ⟨o,us,rss,rfl,s2,h2,pu,nu,pa⟩
     rw [lx,List.take_length] at pa
     exact ⟨_,D,q,us,rss,W,T,N,rfl,hq.same (s1.trans s2),ok,tb,nt,h2,pu,pa,fun e H' zs rs s' he h' pz an=>k e H' zs rs (s1.trans (s2.trans s')) ((s1.trans s2).free he) h' pz an⟩
end
end Prf
namespace L2
open PySem PySem.Spec PyProof.Rows
section
variable {X:Cx}{k j:Nat}{x:Str}{ps:List Str}{sp:Sp}{p pos:Pos}{e a b:Expr}{es:List Expr}{t:TA}{ta tb:TE}{E:XK}
theorem zkO (hr:Room k X.A)(ha:JE X a ta)(hb:JE X b tb)(hm:∀ r,behindInMarks .NotIn b=r->r=false:=by intro _ h;exact h ▸ rfl) : JT X (.Compare a [.NotIn] [b] pos) (tB (zjt ta tb)):=⟨znv (zj8 (by have:=hr.units;lia) ha.h hb.h) (hm _ rfl)⟩
end
def tNev:TS:=fun _ _ _=>False
theorem zmh {X:Cx}{st:Stmt} : JS X st tNev:=⟨fun _ _ _ _ _ _ h=>h.elim⟩
end L2
namespace Prf
open PySem L2 Wr
def _root_.L2.Cond.cols:Cond->List Nat
 | .same i j=>[i,j]
 | .isv i _=>[i]
 | .less i j=>[i,j]
 | .undr i _=>[i]
 | .neg a=>a.cols
 | .both a b=>a.cols++b.cols
 | .either a b=>a.cols++b.cols
theorem zax (cs:List Nat) : (colV cs).length=cs.length:=List.length_map ..
theorem _root_.L2.Cond.cols_len (c:Cond) : c.cols.length<=2*2 ^ c.deep:=by
 have two:∀ (a b:Cond),a.cols.length<=2*2 ^ a.deep->b.cols.length<=2*2 ^ b.deep->(a.cols++b.cols).length<=2*2 ^ (max a.deep b.deep+1):=fun a b h1 h2=>by
  have p1:2 ^ a.deep<=2 ^ max a.deep b.deep:=Nat.pow_le_pow_right (by decide) (Nat.le_max_left _ _)
  have p2:2 ^ b.deep<=2 ^ max a.deep b.deep:=Nat.pow_le_pow_right (by decide) (Nat.le_max_right _ _)
  rw [List.length_append,Nat.pow_succ];lia
 induction c with
 | same _ _=>show 2<=2*2 ^ 0;decide
 | isv _ _=>show 1<=2*2 ^ 0;decide
 | less _ _=>show 2<=2*2 ^ 0;decide
 | undr _ _=>show 1<=2*2 ^ 0;decide
 | neg a h =>
  show a.cols.length<=2*2 ^ (a.deep+1)
  rw [Nat.pow_succ];lia
 | both a b h1 h2=>exact two a b h1 h2
 | either a b h1 h2=>exact two a b h1 h2
theorem _root_.L2.Cond.ok_cols {n:Nat}{c:Cond}(h:c.ok n) : ∀ i∈c.cols,i<n:=by
 induction c with
 | same i j=>intro x hx;rcases List.mem_cons.mp hx with rfl | hx;exact h.1;rw [List.mem_singleton.mp hx];exact h.2
 | isv i _=>intro x hx;rw [List.mem_singleton.mp hx];exact h
 | less i j=>intro x hx;rcases List.mem_cons.mp hx with rfl | hx;exact h.1;rw [List.mem_singleton.mp hx];exact h.2
 | undr i _=>intro x hx;rw [List.mem_singleton.mp hx];exact h
 | neg a ih=>exact ih h
 | both a b i1 i2=>intro x hx;rcases List.mem_append.mp hx with z | z;exact i1 h.1 x z;exact i2 h.2 x z
 | either a b i1 i2=>intro x hx;rcases List.mem_append.mp hx with z | z;exact i1 h.1 x z;exact i2 h.2 x z
theorem zmA {x y:Str}{A B:Prop}(ne:x≠y)(h:A) : if (!decide (V.str x=V.str y))=true then A else B:=by rw [if_pos (by simp [ne])];exact h
def Sm.col:Sm->Option Nat
 | .count=>none
 | .sum i=>some i
 | .least i=>some i
 | .greatest i=>some i
theorem zmi {n:Nat}{ag:List Sm}(h:∀ a∈ag,a.ok n) : ∀ i∈ag.filterMap Sm.col,i<n:=fun i hi=>by
 obtain ⟨a,ha,e⟩:=List.mem_filterMap.mp hi
 have:=h a ha
 cases a<;>first | (cases e;done) | (cases e;exact this)
section
variable {P:Program}{w:World}{K:PySem.W.Frag}{mg:Str->Option Value}{base:Heap}
def zaQ (n:Nat) : Sp:=fun vs H Q _=>∃ (v:V) (c:Cond),vs=[v]/\CondAt H v c/\c.deep<n/\n<=3/\∀ (p:Addr) (H':Hp),Same H H'->H' p=some (.lst (colV c.cols))->Q (.ref p) H'
theorem za7:FnScope ["condition","kind"] ["condition"] (zad za9):=by walk_at "sc"
theorem za8 {f:Addr}{fd:FuncData}(F:Fun K "condition_columns" "condition_columns" za9 f fd)(hm:mg "condition_columns" = some (.ref f))(hk:PySem.W.keepIn K (.ref f)=true)(hb:Binds K fd ["condition"] []) : ∀ n,FnOk P w K mg base CX0 n f fd ["condition"] (zaQ n)
 | 0=>FnOk.none fun _ _ _ _ ⟨_,_,_,_,h,_⟩=>absurd h (Nat.not_lt_zero _)
 | n + 1 => by
  have FC:FnP P w K mg base n "condition_columns" ["condition"] (zaQ n):=⟨f,fd,za8 F hm hk hb n,hm,hk,hb⟩
  refine F.okJ za7 (fun vs H Q E h=>?_) (fun cdv A outer s H vs Q E hr h=>?_)
  ·obtain ⟨_,_,rfl,_⟩:=h
   rfl
  ·obtain ⟨v,c,rfl,hc,dp,n3,k⟩:=h
   have nd:=za7.nd
   refine ⟨_,(zab (zar 1 nd (e_ix zag (e_v 0) e_i))
    (zab (s_if (t_in (e_v 1) (zaJ (ac e_s (a1 e_s)))) (zac (zaj (zbC (ac (e_ix zag (e_v 0) e_i) (a1 (e_ix zag (e_v 0) e_i)))))) zaq)
    (zab (s_if (t_in (e_v 1) (zaJ (ac e_s (a1 e_s)))) (zac (zaj (zbC (a1 (e_ix zag (e_v 0) e_i))))) zaq)
    (zab (s_if (zap o_eq (e_v 1) e_s) (zac (zaj (e_fn FC hr (a1 (e_ix zag (e_v 0) e_i)) (Nat.le_refl _)))) zaq)
    (zac (zaj (e_op zkN (e_fn FC hr (a1 (e_ix zag (e_v 0) e_i)) (Nat.le_refl _)) (e_fn FC hr (a1 (e_ix zag (e_v 0) e_i)) (Nat.le_refl _))))))))),?_⟩
   cases c with
   | same i j =>
    obtain ⟨t,rfl,ht⟩:=hc
    refine ⟨_,rfl,ixTc ht rfl ?_⟩
    refine in2 (x := "same") rfl (fun _ H1 s1=>?_) (fun e=>absurd e (by decide +kernel))
    exact ⟨_,rfl,ixTc (s1 _ _ ht) rfl ⟨_,rfl,ixTc (s1 _ _ ht) rfl ⟨by show 2<=sizeLine;exact sm,fun p hp=>k p _ (s1.trans ((Same.refl H1).upd hp)) zaa⟩⟩⟩
   | less i j =>
    obtain ⟨t,rfl,ht⟩:=hc
    refine ⟨_,rfl,ixTc ht rfl ?_⟩
    refine in2 (x := "below") rfl (fun _ H1 s1=>?_) (fun e=>absurd e (by decide +kernel))
    exact ⟨_,rfl,ixTc (s1 _ _ ht) rfl ⟨_,rfl,ixTc (s1 _ _ ht) rfl ⟨by show 2<=sizeLine;exact sm,fun p hp=>k p _ (s1.trans ((Same.refl H1).upd hp)) zaa⟩⟩⟩
   | isv i m =>
    obtain ⟨t,rfl,ht⟩:=hc
    refine ⟨_,rfl,ixTc ht rfl ?_⟩
    refine in2 (x := "is") rfl (fun e=>absurd e (by decide +kernel)) (fun _ H0 s0=>?_)
    refine in2 (x := "is") rfl (fun _ H1 s1=>?_) (fun e=>absurd e (by decide +kernel))
    have s01:=s0.trans s1
    exact ⟨_,rfl,ixTc (s01 _ _ ht) rfl ⟨by show 1<=sizeLine;exact sm,fun p hp=>k p _ (s01.trans ((Same.refl H1).upd hp)) zaa⟩⟩
   | undr i m =>
    obtain ⟨t,rfl,ht⟩:=hc
    refine ⟨_,rfl,ixTc ht rfl ?_⟩
    refine in2 (x := "under") rfl (fun e=>absurd e (by decide +kernel)) (fun _ H0 s0=>?_)
    refine in2 (x := "under") rfl (fun _ H1 s1=>?_) (fun e=>absurd e (by decide +kernel))
    have s01:=s0.trans s1
    exact ⟨_,rfl,ixTc (s01 _ _ ht) rfl ⟨by show 1<=sizeLine;exact sm,fun p hp=>k p _ (s01.trans ((Same.refl H1).upd hp)) zaa⟩⟩
   | neg a =>
    obtain ⟨t,va,rfl,ht,ha⟩:=hc
    refine ⟨_,rfl,ixTc ht rfl ?_⟩
    refine in2 (x := "not") rfl (fun e=>absurd e (by decide +kernel)) (fun _ H0 s0=>?_)
    refine in2 (x := "not") rfl (fun e=>absurd e (by decide +kernel)) (fun _ H1 s1=>?_)
    have s01:=s0.trans s1
    refine ⟨_,rfl,rfl,_,rfl,zaF ?_⟩
    exact ⟨_,rfl,ixTc (s01 _ _ ht) rfl ⟨va,a,rfl,ha.same s01,Nat.lt_of_succ_lt_succ dp,by lia,fun p H' s' hp=>k p H' (s01.trans s') hp⟩⟩
   | either a b =>
    obtain ⟨t,va,vb,rfl,ht,ha,hb'⟩:=hc
    refine ⟨_,rfl,ixTc ht rfl ?_⟩
    refine in2 (x := "either") rfl (fun e=>absurd e (by decide +kernel)) (fun _ H0 s0=>?_)
    refine in2 (x := "either") rfl (fun e=>absurd e (by decide +kernel)) (fun _ H1 s1=>?_)
    have s01:=s0.trans s1
    walk_at "f"
    have dp':max a.deep b.deep<n:=Nat.lt_of_succ_lt_succ dp
    have da:a.deep<n:=Nat.lt_of_le_of_lt (Nat.le_max_left _ _) dp'
    have db:b.deep<n:=Nat.lt_of_le_of_lt (Nat.le_max_right _ _) dp'
    refine ⟨_,rfl,ixTc (s01 _ _ ht) rfl ⟨va,a,rfl,ha.same s01,da,by lia,fun p H2 s2 hp=>?_⟩⟩
    have s02:=s01.trans s2
    refine ⟨_,rfl,ixTc (s02 _ _ ht) rfl ⟨vb,b,rfl,hb'.same s02,db,by lia,fun q H3 s3 hq=>?_⟩⟩
    have la:=Cond.cols_len a
    have lb:=Cond.cols_len b
    have pa:2 ^ a.deep<=2 ^ 3:=Nat.pow_le_pow_right (by decide) (by lia)
    have pb:2 ^ b.deep<=2 ^ 3:=Nat.pow_le_pow_right (by decide) (by lia)
    refine ⟨p,q,_,_,rfl,rfl,s3 _ _ hp,hq,by rw [zax,zax];exact sm (by lia),fun r hr'=>?_⟩
    refine k r _ (s02.trans (s3.trans ((Same.refl H3).upd hr'))) ?_
    rw [zaa];unfold colV;rw [<- List.map_append];rfl
   | both a b =>
    obtain ⟨t,va,vb,rfl,ht,ha,hb'⟩:=hc
    refine ⟨_,rfl,ixTc ht rfl ?_⟩
    refine in2 (x := "both") rfl (fun e=>absurd e (by decide +kernel)) (fun _ H0 s0=>?_)
    refine in2 (x := "both") rfl (fun e=>absurd e (by decide +kernel)) (fun _ H1 s1=>?_)
    have s01:=s0.trans s1
    walk_at "f"
    have dp':max a.deep b.deep<n:=Nat.lt_of_succ_lt_succ dp
    have da:a.deep<n:=Nat.lt_of_le_of_lt (Nat.le_max_left _ _) dp'
    have db:b.deep<n:=Nat.lt_of_le_of_lt (Nat.le_max_right _ _) dp'
    refine ⟨_,rfl,ixTc (s01 _ _ ht) rfl ⟨va,a,rfl,ha.same s01,da,by lia,fun p H2 s2 hp=>?_⟩⟩
    have s02:=s01.trans s2
    refine ⟨_,rfl,ixTc (s02 _ _ ht) rfl ⟨vb,b,rfl,hb'.same s02,db,by lia,fun q H3 s3 hq=>?_⟩⟩
    have la:=Cond.cols_len a
    have lb:=Cond.cols_len b
    have pa:2 ^ a.deep<=2 ^ 3:=Nat.pow_le_pow_right (by decide) (by lia)
    have pb:2 ^ b.deep<=2 ^ 3:=Nat.pow_le_pow_right (by decide) (by lia)
    refine ⟨p,q,_,_,rfl,rfl,s3 _ _ hp,hq,by rw [zax,zax];exact sm (by lia),fun r hr'=>?_⟩
    refine k r _ (s02.trans (s3.trans ((Same.refl H3).upd hr'))) ?_
    rw [zaa];unfold colV;rw [<- List.map_append];rfl
def zcA:Sp:=fun vs H Q _=>∃ (z:Str) (d:Addr) (n:Int),vs=[.str z,.ref d]/\DGet H d (.str z) (some (.int n))/\Q (.int n) H
theorem zeL:FnScope ["name","widths"] ["name","widths"] (zad zcy):=by walk_at "sc"
theorem zeF {f:Addr}{fd:FuncData}(F:Fun K "table_width" "table_width" zcy f fd) : FnOk P w K mg base CX0 1 f fd ["name","widths"] zcA:=by
 refine F.okJ zeL (fun vs H Q E h=>?_) (fun cdv A outer s H vs Q E hr h=>?_)
 ·obtain ⟨_,_,_,rfl,_⟩:=h
  rfl
 ·obtain ⟨z,d,n,rfl,g,k⟩:=h
  refine ⟨_,(zab (s_if (zkO hr (e_v 0) (e_v 1)) (zac zmh) zaq) (zac (zaj (zhz hr (e_v 1) (e_v 0))))),?_⟩
  refine ⟨_,rfl,_,rfl,d,_,rfl,g,_,rfl,iteF ?_⟩
  exact ⟨_,rfl,_,rfl,d,.int n,rfl,g,k⟩
def za6:Sp:=fun vs H Q _=>∃ (a:Int),vs=[.int a,.int a]/\Q .non H
theorem zdO:FnScope ["one","other"] ["one","other"] (zad zbU):=by walk_at "sc"
theorem zdL {f:Addr}{fd:FuncData}(F:Fun K "refuse_unlike" "refuse_unlike" zbU f fd) : FnOk P w K mg base CX0 1 f fd ["one","other"] za6:=by
 refine F.okJ zdO (fun vs H Q E h=>?_) (fun cdv A outer s H vs Q E hr h=>?_)
 ·obtain ⟨_,rfl,_⟩:=h
  rfl
 ·obtain ⟨a,rfl,k⟩:=h
  refine ⟨_,(zac (s_if (zap o_ne (e_v 0) (e_v 1)) (zac zmh) zaq)),?_⟩
  refine ⟨_,rfl,_,rfl,rfl,_,rfl,?_⟩
  rw [decide_eq_true rfl]
  exact iteF k
def zaS:Sp:=fun vs H Q _=>∃ (p:Addr) (cs:List Nat) (n:Nat),vs=[.ref p,.int (n:Int)]/\H p=some (.lst (colV cs))/\(∀ i∈cs,i<n)/\Q .non H
theorem zbe:FnScope ["columns","count","column"] ["columns","count"] (zad zbh):=by walk_at "sc"
theorem zcB {f:Addr}{fd:FuncData}(F:Fun K "refuse_no_column" "refuse_no_column" zbh f fd) : FnOk P w K mg base CX0 1 f fd ["columns","count"] zaS:=by
 refine F.okJ zbe (fun vs H Q E h=>?_) (fun cdv A outer s H vs Q E hr h=>?_)
 ·obtain ⟨_,_,_,rfl,_⟩:=h
  rfl
 ·obtain ⟨p,cs,n,rfl,hp,hc,k⟩:=h
  have nd:=zbe.nd
  refine ⟨_,(zac (zdI (zaz (e_v 0)) (g_n 2 nd)
    (zac (s_if (JW.jt (w_or (zap o_lt (e_v 2) e_i) (zeP (zap o_ge (e_v 2) (e_v 1))))) (zac zmh) zaq)))),?_⟩
  refine ⟨_,rfl,p,rfl,⟨_,SqL.of hp⟩,zbl (K:=K) (a:=p) (xs:=colV cs) (fun i σ H'=>∃ o2,σ=[some (.ref p),some (.int (n:Int)),o2]/\H'=H)
   ⟨none,rfl,rfl⟩ (fun i σ H' _ ⟨_,_,e⟩=>by rw [e];exact SqL.of hp) ?_ ?_⟩
  ·rintro i x σ H' hx ⟨o2,rfl,rfl⟩
   obtain ⟨c,ec,rfl⟩:=zjh hx
   have mc:=hc c (gM ec)
   refine ⟨_,rfl,_,_,rfl,rfl,_,rfl,ite2 (fun y=>?_) (fun y=>?_)⟩
   ·have:=of_decide_eq_true y;lia
   refine ⟨_,rfl,_,rfl,_,_,rfl,rfl,_,rfl,ite2 (fun y2=>?_) (fun y2=>?_)⟩
   ·have:=of_decide_eq_true y2;lia
   exact ⟨_,rfl,rfl⟩
  ·rintro σ H' ⟨o2,rfl,rfl⟩
   exact k
def Qn.told:Qn->List Nat
 | .pick c _=>c.cols
 | .columns cs _=>cs
 | .group cs ag _=>cs++ag.filterMap Sm.col
 | _=>[]
def Qn.one:Qn->Bool
 | .table _=>false
 | .two _ _ _=>false
 | _=>true
def zbg:Sp:=fun vs H Q _=>∃ (v:V) (q:Qn) (W:Str->Nat) (N:List Str),vs=[v]/\QAt H v q/\q.one=true/\q.ok W N/\∀ (p:Addr) (H':Hp),Same H H'->H' p=some (.lst (colV q.told))->Q (.ref p) H'
theorem zb8:FnScope ["question","columns"] ["question"] (zad zcf):=by walk_at "sc"
theorem zer {f:Addr}{fd:FuncData}(F:Fun K "told_columns" "told_columns" zcf f fd)(B:Blts mg)(FC:FnP P w K mg base 3 "condition_columns" ["condition"] (zaQ 3)) : FnOk P w K mg base CX0 4 f fd ["question"] zbg:=by
 refine F.okJ zb8 (fun vs H Q E h=>?_) (fun cdv A outer s H vs Q E hr h=>?_)
 ·obtain ⟨_,_,_,_,rfl,_⟩:=h
  rfl
 ·obtain ⟨v,q,W,N,rfl,hq,ho,ok,k⟩:=h
  have nd:=zb8.nd
  have nd1:(["each"] : List Str).Nodup:=by decide +kernel
  refine ⟨_,(zab (s_if (zap o_eq (e_ix zag (e_v 0) e_i) e_s) (zac (zaj (e_fn FC hr (a1 (e_ix zag (e_v 0) e_i))))) zaq)
   (zab (zar 1 nd (e_ct zjN B.list PyProof.Rows.boot_list (a1 (e_ix zag (e_v 0) e_i))))
   (zab (s_if (zap o_eq (e_ix zag (e_v 0) e_i) e_s) (zac (znG (e_v 1) (a1c (zaP (Nc:=["each"]) (js:=[none]) (g:=(zas 0)) (tt:=(zb3 (tOp rNe (tOp (rIxT K) (tVar 0) (tC (.int 0))) (tC (.str "count"))))) (te:=(tOp (rIxT K) (tVar 0) (tC (.int 1))))
   (zat rfl rfl rfl rfl (fun x c h=>by cases h) rfl rfl rfl) (zaz (e_ix zag (e_v 0) e_i))
   (fun pins C s3 H3 fp=>⟨(g_n 0 nd1),.inr ⟨_,rfl,(zap o_ne (e_ix zag (e_v 0) e_i) e_s)⟩,(e_ix zag (e_v 0) e_i)⟩))))) zaq)
   (zac (zaj (e_v 1)))))),?_⟩
  cases q with
  | table z=>cases ho
  | two o a b=>cases ho
  | pick c q =>
   obtain ⟨t,vc,vq,rfl,ht,hc,hq⟩:=hq
   refine ⟨_,rfl,ixTc ht rfl ⟨rfl,_,rfl,zaF ?_⟩⟩
   exact ⟨_,rfl,ixTc ht rfl ⟨vc,c,rfl,hc,Nat.lt_succ_of_le ok.2.1,by decide,k⟩⟩
  | columns cs q =>
   obtain ⟨t,l,vq,rfl,ht,hl,hq⟩:=hq
   refine ⟨_,rfl,ixTc ht rfl ⟨rfl,_,rfl,iteSF (by decide +kernel) ?_⟩⟩
   refine ⟨_,rfl,ixTc ht rfl ⟨l,_,rfl,.inl (SqL.of hl),fun p hp=>?_⟩⟩
   obtain ⟨H1,e,s1,u1⟩:=fresh (.lst (colV cs)) hp;rw [e];clear e
   refine ⟨_,rfl,ixTc (s1 _ _ ht) rfl ⟨rfl,_,rfl,iteSF (by decide +kernel) ?_⟩⟩
   exact ⟨_,rfl,k p H1 s1 u1⟩
  | group cs ag q =>
   obtain ⟨t,l,m,ms,vq,rfl,ht,hl,hm,pm,hq⟩:=hq
   refine ⟨_,rfl,ixTc ht rfl ⟨rfl,_,rfl,iteSF (by decide +kernel) ?_⟩⟩
   refine ⟨_,rfl,ixTc ht rfl ⟨l,_,rfl,.inl (SqL.of hl),fun p hp=>?_⟩⟩
   obtain ⟨H1,e,s1,u1⟩:=fresh (.lst (colV cs)) hp;rw [e];clear e
   refine ⟨_,rfl,ixTc (s1 _ _ ht) rfl ⟨rfl,_,rfl,zaF ?_⟩⟩
   have hm1:=s1 _ _ hm
   have lm:=Paired.length pm
   have l10:=ok.2.2.2.1
   refine ⟨_,rfl,.inl ⟨rfl,_,SqL.of u1⟩,_,rfl,ixTc (s1 _ _ ht) rfl ⟨m,rfl,⟨_,SqL.of hm1⟩,fun D hD=>?_⟩⟩
   have lf:∀ j,((ag.take j).filterMap Sm.col).length<=10:=fun j=>by
    have h1:=List.length_filterMap_le Sm.col (ag.take j)
    rw [List.length_take] at h1
    lia
   refine zaK (K:=K) (a:=m) (xs:=ms) (fun j _ σ H2=>∃ (o:Option V),σ=[o]/\Same H1 H2/\H2 D=some (.lst (colV ((ag.take j).filterMap Sm.col))))
    ⟨none,rfl,(Same.refl H1).upd hD,zaa⟩ (fun j _ σ H2 _ ⟨_,_,s2,_⟩=>SqL.of (s2 _ _ hm1)) ?_ ?_
   ·rintro j x _ σ H2 hx ⟨o,rfl,s2,h2⟩
    obtain ⟨g,eg,hg⟩:=zan pm hx
    have s02:=s1.trans s2
    have keep:g.col=none->((ag.take (j+1)).filterMap Sm.col)=((ag.take j).filterMap Sm.col):=fun e=>by
     rw [take_snoc eg,List.filterMap_append,List.filterMap_cons,e,List.filterMap_nil,List.append_nil]
    have more:∀ i,g.col=some i->((ag.take (j+1)).filterMap Sm.col)=((ag.take j).filterMap Sm.col)++[i]:=fun i e=>by
     rw [take_snoc eg,List.filterMap_append,List.filterMap_cons,e,List.filterMap_nil]
    cases g with
    | count =>
     obtain ⟨u,rfl,hu⟩:=hg
     refine ⟨_,rfl,ixTc (s02 _ _ hu) rfl ⟨rfl,_,rfl,?_⟩⟩
     refine iteF ⟨[],_,rfl,s2,?_⟩
     rw [keep rfl];exact h2
    | sum i =>
     obtain ⟨u,rfl,hu⟩:=hg
     refine ⟨_,rfl,ixTc (s02 _ _ hu) rfl ⟨rfl,_,rfl,?_⟩⟩
     refine zmA (by decide +kernel) ⟨_,rfl,ixTc (s02 _ _ hu) rfl ⟨_,h2,zah (by rw [zax];have:=lf j;lia),[],_,rfl,s2.upd hD,?_⟩⟩
     rw [zaa,more i rfl];unfold colV;rw [List.map_append];rfl
    | least i =>
     obtain ⟨u,rfl,hu⟩:=hg
     refine ⟨_,rfl,ixTc (s02 _ _ hu) rfl ⟨rfl,_,rfl,?_⟩⟩
     refine zmA (by decide +kernel) ⟨_,rfl,ixTc (s02 _ _ hu) rfl ⟨_,h2,zah (by rw [zax];have:=lf j;lia),[],_,rfl,s2.upd hD,?_⟩⟩
     rw [zaa,more i rfl];unfold colV;rw [List.map_append];rfl
    | greatest i =>
     obtain ⟨u,rfl,hu⟩:=hg
     refine ⟨_,rfl,ixTc (s02 _ _ hu) rfl ⟨rfl,_,rfl,?_⟩⟩
     refine zmA (by decide +kernel) ⟨_,rfl,ixTc (s02 _ _ hu) rfl ⟨_,h2,zah (by rw [zax];have:=lf j;lia),[],_,rfl,s2.upd hD,?_⟩⟩
     rw [zaa,more i rfl];unfold colV;rw [List.map_append];rfl
   ·rintro _ σ H2 ⟨o,rfl,s2,h2⟩
    rw [lm,List.take_length] at h2
    have u2:=s2 _ _ u1
    have lc:=ok.2.2.1
    have lf2:(ag.filterMap Sm.col).length<=10:=by
     have h1:=List.length_filterMap_le Sm.col ag
     lia
    refine ⟨p,D,_,_,rfl,rfl,u2,h2,by rw [zax,zax];exact sm (by lia),?_⟩
    refine ⟨_,rfl,k p _ ((s1.trans s2).upd hp) ?_⟩
    rw [zaa];unfold colV;rw [<- List.map_append];rfl
theorem zl5 {W:Str->Nat}{N:List Str}{q:Qn}(ok:q.ok W N)(n:Nat)(e:q.parts.map (Qn.w W)=[n])(ho:q.one=true) : ∀ i∈q.told,i<n:=by
 cases q with
 | table z=>cases ho
 | two o a b=>cases ho
 | pick c q =>
  have e:q.w W=n:=by simpa [Qn.parts] using e
  exact e ▸ Cond.ok_cols ok.1
 | columns cs q =>
  have e:q.w W=n:=by simpa [Qn.parts] using e
  exact e ▸ ok.1
 | group cs ag q =>
  have e:q.w W=n:=by simpa [Qn.parts] using e
  intro i hi
  rcases List.mem_append.mp hi with z | z
  ·exact e ▸ ok.1 i z
  ·exact e ▸ zmi ok.2.1 i z
def zdj:Sp:=fun vs H Q _=>∃ (v:V) (p:Addr) (q:Qn) (W:Str->Nat) (N:List Str),vs=[v,.ref p]/\QAt H v q/\q.ok W N/\q.isT=false/\H p=some (.lst (colV (q.parts.map (Qn.w W))))/\∀ H',Same H H'->Q (.int (q.w W:Nat)) H'
theorem zdm:FnScope ["question","within","kind"] ["question","within"] (zad zc2):=by walk_at "sc"
theorem zfy {f:Addr}{fd:FuncData}(F:Fun K "width_over" "width_over" zc2 f fd)(B:Blts mg)(FU:FnP P w K mg base 1 "refuse_unlike" ["one","other"] za6)(FN:FnP P w K mg base 1 "refuse_no_column" ["columns","count"] zaS)
  (FT:FnP P w K mg base 4 "told_columns" ["question"] zbg) : FnOk P w K mg base CX0 5 f fd ["question","within"] zdj:=by
 refine F.okJ zdm (fun vs H Q E h=>?_) (fun cdv A outer s H vs Q E hr h=>?_)
 ·obtain ⟨_,_,_,_,_,rfl,_⟩:=h
  rfl
 ·obtain ⟨v,p,q,W,N,rfl,hq,ok,nt,hp,k⟩:=h
  have nd:=zdm.nd
  refine ⟨_,(zab (zar 2 nd (e_ix zag (e_v 0) e_i))
   (zab (s_if (zap o_eq (e_v 2) e_s) (zac (zaj (e_op zaM (e_ix zaw (e_v 1) e_i) (e_ix zaw (e_v 1) e_i)))) zaq)
   (zab (s_if (t_in (e_v 2) (zaJ (ac e_s (ac e_s (a1 e_s))))) (zab (zlk (e_fn FU hr (ac (e_ix zaw (e_v 1) e_i) (a1 (e_ix zaw (e_v 1) e_i)))))
    (zac (zaj (e_ix zaw (e_v 1) e_i)))) zaq)
   (zab (zlk (e_fn FN hr (ac (e_fn FT hr (a1 (e_v 0))) (a1 (e_ix zaw (e_v 1) e_i)))))
   (zab (s_if (zap o_eq (e_v 2) e_s) (zac (zaj (e_cb zcd B.len PySem.boot_len (a1 (e_ix zag (e_v 0) e_i))))) zaq)
   (zab (s_if (zap o_eq (e_v 2) e_s) (zac (zaj (e_op zaM (e_cb zcd B.len PySem.boot_len (a1 (e_ix zag (e_v 0) e_i))) (e_cb zcd B.len PySem.boot_len (a1 (e_ix zag (e_v 0) e_i)))))) zaq)
   (zac (zaj (e_ix zaw (e_v 1) e_i))))))))),?_⟩
  have single:∀ (kd:Str) (t:Addr) (n:Nat) (G:TS),q.parts.map (Qn.w W)=[n]->QAt H (.ref t) q->q.one=true->("union" == kd || "common" == kd || "less" == kd)=false->kd ≠ "join" ->
    (∀ H',Same H H'->G { nx:=fun _ H'=>Q .non H',rt:=Q } [some (.ref t),some (.ref p),some (.str kd)] H') ->
    tSeq (tIfS (zb3 (tOp rEq (tVar 2) (tC (.str "join")))) (tRet (tOp (rI0 fun i j=>.int (i+j)) (tOp (rIxL K) (tVar 1) (tC (.int 0))) (tOp (rIxL K) (tVar 1) (tC (.int 1))))) zgw) (tSeq (tIfS (zb3 (tOp (rIn K false) (tVar 2) (tTup (zaf (tC (.str "union")) (zaf (tC (.str "common")) (zaf (tC (.str "less")) tNil)))))) (tSeq (zgC (zbp za6 [] E0 (zaf (tOp (rIxL K) (tVar 1) (tC (.int 0))) (zaf (tOp (rIxL K) (tVar 1) (tC (.int 1))) tNil)))) (tRet (tOp (rIxL K) (tVar 1) (tC (.int 0))))) zgw) (tSeq (zgC (zbp zaS [] E0 (zaf (zbp zbg [] E0 (zaf (tVar 0) tNil)) (zaf (tOp (rIxL K) (tVar 1) (tC (.int 0))) tNil)))) G)) { nx:=fun _ H'=>Q .non H',rt:=Q } [some (.ref t),some (.ref p),some (.str kd)] H:=by
   intro kd t n G en hq1 ho kno nj fin
   have hp:=hp
   rw [en] at hp
   refine ⟨_,rfl,rfl,_,rfl,iteSF nj ?_⟩
   refine in3 (x:=kd) rfl (fun e=>by rw [kno] at e;cases e) (fun _ H1 s1=>?_)
   refine ⟨_,rfl,_,q,W,N,rfl,hq1.same s1,ho,ok,fun l H2 s2 hl=>?_⟩
   have s12:=s1.trans s2
   exact ⟨_,rfl,ixLc (s12 _ _ hp) rfl ⟨l,q.told,n,rfl,hl,zl5 ok n en ho,fin H2 s12⟩⟩
  cases q with
  | table z=>cases nt
  | pick cd q =>
   obtain ⟨t,vc,vq,rfl,ht,hc,hq'⟩:=hq
   refine ⟨_,rfl,ixTc ht rfl (single "pick" t _ _ rfl ⟨t,vc,vq,rfl,ht,hc,hq'⟩ rfl (by decide +kernel) (by decide +kernel) (fun H' s'=>?_))⟩
   walk_at "f"
   walk_at "f"
   exact ⟨_,rfl,ixLc (s' _ _ hp) rfl (k H' s')⟩
  | columns cs q =>
   obtain ⟨t,l,vq,rfl,ht,hl,hq'⟩:=hq
   refine ⟨_,rfl,ixTc ht rfl (single "columns" t _ _ rfl ⟨t,l,vq,rfl,ht,hl,hq'⟩ rfl (by decide +kernel) (by decide +kernel) (fun H' s'=>?_))⟩
   refine ⟨_,rfl,rfl,_,rfl,zaF ?_⟩
   refine ⟨_,rfl,ixTc (s' _ _ ht) rfl ⟨l,_,rfl,.inl (SqL.of (s' _ _ hl)),?_⟩⟩
   rw [zax]
   exact k H' s'
  | group cs ag q =>
   obtain ⟨t,l,m,ms,vq,rfl,ht,hl,hm,pm,hq'⟩:=hq
   refine ⟨_,rfl,ixTc ht rfl (single "group" t _ _ rfl ⟨t,l,m,ms,vq,rfl,ht,hl,hm,pm,hq'⟩ rfl (by decide +kernel) (by decide +kernel) (fun H' s'=>?_))⟩
   walk_at "f"
   refine ⟨_,rfl,rfl,_,rfl,zaF ?_⟩
   refine ⟨_,rfl,ixTc (s' _ _ ht) rfl ⟨l,_,rfl,.inl (SqL.of (s' _ _ hl)),_,rfl,ixTc (s' _ _ ht) rfl ⟨m,_,rfl,.inl (SqL.of (s' _ _ hm)),_,_,rfl,rfl,?_⟩⟩⟩
   rw [zax,Paired.length pm]
   exact k H' s'
  | two o a b =>
   obtain ⟨t,va,vb,rfl,ht,ha,hb⟩:=hq
   refine ⟨_,rfl,ixTc ht rfl ?_⟩
   by_cases oj:o=.join
   ·subst oj
    refine ⟨_,rfl,rfl,_,rfl,zaF ?_⟩
    exact ⟨_,rfl,ixLc hp rfl ⟨_,rfl,ixLc hp rfl ⟨_,_,rfl,rfl,k H (Same.refl H)⟩⟩⟩
   ·have e1:o.nm ≠ "join" := by cases o<;>first | exact absurd rfl oj | decide +kernel
    have e2:("union" == o.nm || "common" == o.nm || "less" == o.nm)=true:=by cases o<;>first | exact absurd rfl oj | decide +kernel
    have ew:a.w W=b.w W:=by obtain ⟨_,_,_,_,m⟩:=ok;cases o<;>first | exact absurd rfl oj | exact m.1
    have ek:(Qn.two o a b).w W=a.w W:=by cases o<;>first | exact absurd rfl oj | rfl
    refine ⟨_,rfl,rfl,_,rfl,iteSF e1 ?_⟩
    refine in3 (x:=o.nm) rfl (fun _ H1 s1=>?_) (fun e=>by rw [e2] at e;cases e)
    have hp1:H1 p=some (.lst [.int (a.w W:Nat),.int (b.w W:Nat)]):=s1 _ _ hp
    refine ⟨_,rfl,ixLc hp1 rfl ⟨_,rfl,ixLc hp1 rfl ⟨((a.w W:Nat) : Int),by rw [ew];rfl,?_⟩⟩⟩
    refine ⟨_,rfl,ixLc hp1 rfl ?_⟩
    have:=k H1 s1
    rw [ek] at this
    exact this
structure WdAt (H:Hp) (d:Addr) (W:Str->Nat) (N:List Str) : Prop where
 wd:∀ z∈N,DGet H d (.str z) (some (.int (W z:Nat)))
theorem WdAt.same {H H':Hp}{d:Addr}{W:Str->Nat}{N:List Str}(h:WdAt H d W N)(s:Same H H') : WdAt H' d W N:=⟨fun z hz=>zf8 s (h.wd z hz)⟩
def zdX (n:Nat) : Sp:=fun vs H Q _=>∃ (v:V) (d:Addr) (q:Qn) (W:Str->Nat) (N:List Str),vs=[v,.ref d]/\QAt H v q/\q.ok W N/\q.deep<n/\WdAt H d W N/\∀ H',Same H H'->Q (.int (q.w W:Nat)) H'
theorem zhW:FnScope ["question","widths"] ["question","widths"] (zad zie):=by walk_at "sc"
theorem zh2 {f:Addr}{fd:FuncData}(F:Fun K "width" "width" zie f fd)(hm:mg "width" = some (.ref f))(hk:PySem.W.keepIn K (.ref f)=true)(hb:Binds K fd ["question","widths"] [])
  (FT:FnP P w K mg base 1 "table_width" ["name","widths"] zcA) (FO:FnP P w K mg base 5 "width_over" ["question","within"] zdj) (FP:FnP P w K mg base 1 "parts_of" ["question"] zcH) : ∀ n,FnOk P w K mg base CX0 (n+6) f fd ["question","widths"] (zdX n)
 | 0=>FnOk.none fun _ _ _ _ ⟨_,_,_,_,_,_,_,_,h,_⟩=>absurd h (Nat.not_lt_zero _)
 | n + 1 => by
  have FW:FnP P w K mg base (n+6) "width" ["question","widths"] (zdX n):=⟨f,fd,zh2 F hm hk hb FT FO FP n,hm,hk,hb⟩
  refine F.okJ (k:=n+6) zhW (fun vs H Q E h=>?_) (fun cdv A outer s H vs Q E hr h=>?_)
  ·obtain ⟨_,_,_,_,_,rfl,_⟩:=h
   rfl
  ·obtain ⟨v,d,q,W,N,rfl,hq,ok,dp,wd,k⟩:=h
   have nd:=zhW.nd
   have nd2:(["part","widths"] : List Str).Nodup:=by decide +kernel
   refine ⟨_,(zab (s_if (zap o_eq (e_ix zag (e_v 0) e_i) e_s) (zac (zaj (e_fn FT hr (ac (e_ix zag (e_v 0) e_i) (a1 (e_v 1))) (by lia)))) zaq)
    (zac (zaj (e_fn FO hr (ac (e_v 0) (a1c (zaP (Nc:=["part","widths"]) (js:=[none,some 1]) (g:=(zas 0)) (tt:=tYes) (te:=(zbp (zdX n) [] E0 (zaf (tVar 0) (zaf (tVar 1) tNil))))
    (zat rfl rfl rfl rfl (fun x c h=>by simp at h;rcases h with ⟨rfl,rfl⟩<;>rfl) rfl rfl rfl) (zaz (e_fn FP hr (a1 (e_v 0)) (by lia)))
    (fun pins C s3 H3 fp=>⟨(g_n 0 nd2),.inl ⟨rfl,rfl⟩,(e_fn FW hr (ac (e_v 0) (a1 (e_v 1))) (Nat.le_refl _))⟩)))) (by lia))))),?_⟩
   by_cases it:q.isT=true
   ·cases q with
    | table z =>
     obtain ⟨t,rfl,ht⟩:=hq
     refine ⟨_,rfl,ixTc ht rfl ⟨rfl,_,rfl,zaF ?_⟩⟩
     exact ⟨_,rfl,ixTc ht rfl ⟨_,rfl,z,d,_,rfl,wd.wd z ok,k H (Same.refl H)⟩⟩
    | _=>cases it
   ·have nt:q.isT=false:=by cases e:q.isT with | true=>exact absurd e it | false=>rfl
    have hd0:∃ (t:Addr) (kd:Str) (xs:List V),v=.ref t/\H t=some (.tup (.str kd::xs))/\kd ≠ "table" := by
     cases q with
     | table z=>cases nt
     | pick cd q=>obtain ⟨t,vc,vq,e,ht,_⟩:=hq;exact ⟨t,"pick", _,e,ht,by decide +kernel⟩
     | columns cs q=>obtain ⟨t,vc,vq,e,ht,_⟩:=hq;exact ⟨t,"columns", _,e,ht,by decide +kernel⟩
     | group cs ag q=>obtain ⟨t,_,_,_,_,e,ht,_⟩:=hq;exact ⟨t,"group", _,e,ht,by decide +kernel⟩
     | two o a b=>obtain ⟨t,va,vb,e,ht,_⟩:=hq;exact ⟨t,o.nm,_,e,ht,by cases o<;>decide +kernel⟩
    obtain ⟨t,kd,xs0,rfl,ht,nk⟩:=hd0
    refine ⟨_,rfl,ixTc ht (za1 (j:=0) (show (V.str kd::xs0)[0]?=some (V.str kd) from rfl)) ⟨rfl,_,rfl,iteSF nk ?_⟩⟩
    refine ⟨_,rfl,_,rfl,_,q,rfl,hq,fun p H1 xs s1 _ hp px=>⟨p,rfl,⟨_,SqL.of hp⟩,fun D hD=>?_⟩⟩
    have lx:xs.length=q.parts.length:=Paired.length px
    have lp:q.parts.length<=2:=by cases q<;>first | decide | (show 1<=2;decide) | (show 2<=2;decide) | (show 0<=2;decide)
    refine zaK (K:=K) (a:=p) (xs:=xs) (fun i _ σ H2=>∃ (o:Option V),σ=[o,some (.ref d)]/\Same H1 H2/\H2 D=some (.lst (colV ((q.parts.take i).map (Qn.w W)))))
     ⟨none,rfl,(Same.refl H1).upd hD,zaa⟩ (fun i _ σ H2 _ ⟨_,_,s2,_⟩=>SqL.of (s2 _ _ hp)) ?_ ?_
    ·rintro i x _ σ H2 hx ⟨o,rfl,s2,h2⟩
     obtain ⟨r,er',hr'⟩:=zan px hx
     have mr:=List.mem_of_getElem? er'
     obtain ⟨o1,o2⟩:=zh0 ok mr
     have hi:i<q.parts.length:=(List.getElem?_eq_some_iff.mp er').1
     refine ⟨_,rfl,_,rfl,x,d,r,W,N,rfl,hr'.same s2,o1,by lia,(wd.same s1).same s2,fun H3 s3=>?_⟩
     refine ⟨_,s3 _ _ h2,zah (by rw [zax,List.length_map,List.length_take];lia),[],_,rfl,(s2.trans s3).upd hD,?_⟩
     rw [zaa,take_snoc er'];unfold colV;rw [List.map_append,List.map_append];rfl
    ·rintro _ σ H2 ⟨o,rfl,s2,h2⟩
     rw [lx,List.take_length] at h2
     exact ⟨_,D,q,W,N,rfl,hq.same (s1.trans s2),ok,nt,h2,fun H3 s3=>k H3 (s1.trans (s2.trans s3))⟩
end
end Prf
namespace L2
open PySem PySem.Spec PyProof.Rows
section
variable {X:Cx}{a b:Expr}{ta tb:TE}{pos:Pos}{k:Nat}
def rNiD (K:W.Frag) : R2:=fun x y H Q=>∃ d ds,Den K H x d/\Den K H y (.list ds)/\d.canLay0=true/\PyData.canLayAll0 ds=true/\d.depth<=60/\Q (.bl (!ds.any fun e=>PyData.eqv e d)) H
theorem znS (hu:X.A.units+64<cLine) : OpR X (compareOp .NotIn) (rNiD X.K):=by
 intro pins s σ H x y v u Q I rx ry ⟨d,ds,h1,h2,s1,s2,s3,q⟩
 obtain ⟨as,r1⟩:=zaN I h1 rx
 obtain ⟨bs,r2⟩:=zaN I h2 ry
 refine SeqAt.notIn_list_reads r2 r1 s2 s1 ?_ ⟨.bl _,H,I,rfl,q⟩
 have:=Nat.min_le_right (PyData.depthAll ds) d.depth
 lia
theorem zok (hr:Room k X.A)(ha:JE X a ta)(hb:JE X b tb)(hm:∀ r,behindInMarks .NotIn b=r->r=false:=by intro _ h;exact h ▸ rfl) : JT X (.Compare a [.NotIn] [b] pos) (zb3 (tOp (rNiD X.K) ta tb)):=⟨zfB (znS hr.units) ha.h hb.h (hm _ rfl)⟩
end
end L2
namespace L2
open PySem PySem.Spec PyProof.Rows Wr
section
variable {X:Cx}
theorem zlR:JC X (.type "range") (fun xs H Q=>∃ n:Nat,xs=[.int (n:Int)]/\∀ r,H r=none->Q (.ref r) (upd H r (.rng 0 n))):=by
 refine ⟨fun pins s σ H xs us Q I r h=>?_⟩
 obtain ⟨n,rfl,q⟩:=h
 obtain ⟨u,rfl,ru⟩:=vals1 r
 obtain ⟨t,rfl⟩:=ru
 refine call_range_1 ?_
 exact ⟨.ref s.heap.objs.size,_,I.laid (a:=s.heap.objs.size) (o:=.rng 0 n) (t':=s.toks+1+1) (fun b u z=>Heap.get?_push_of_some _ z) (Nat.le_refl _) ⟨_,_,_,Heap.get?_push_size _ rfl⟩,rfl,q _ (I.hok.fresh (Nat.le_refl _))⟩
def zgt (n:Nat) : List V:=(List.range n).map fun (i:Nat)=>V.int (i:Int)
theorem zgO (hc:X.calm=true:=by rfl) : JC X (.type "list") (fun xs H Q=>∃ (r:Addr) (n:Nat),xs=[.ref r]/\H r=some (.rng 0 n)/\n<=1000/\∀ l,H l=none->Q (.ref l) (upd H l (.lst (zgt n)))):=by
 refine ⟨fun pins s σ H xs us Q I r h=>?_⟩
 obtain ⟨a,n,rfl,ha,hn,q⟩:=h
 obtain ⟨u,rfl,ru⟩:=vals1 r
 cases ru
 obtain ⟨t,u,v,e⟩:=(show ObjOk X.prog X.w H s.heap a (.rng 0 n) from I.hok a _ ha)
 have sz:Builtin.Range.rangeSize 0 (n:Int) 1=(n:Int):=by rw [rangeSize_one];split<;>lia
 refine call_list_range (zgM I hc) e (small_one (by decide) (by decide) (by lia) (by lia)) sz (by lia) fun h' tk acc c' k e1 it=>?_
 have vv:Vals (zgt n) acc.toList:=by
  have go:∀ (m:Nat) (l:List Value),l.length=m->(∀ (j:Nat) v,l[j]?=some v->∃ t,v=Value.int (0+(j:Int)*1) t)->Vals (zgt m) l:=by
   intro m
   induction m with
   | zero=>intro l hl _;rw [List.length_eq_zero_iff.mp hl];exact .nil
   | succ m ih =>
    intro l hl hj
    obtain ⟨l1,x,rfl⟩ : ∃ l1 x,l=l1++[x]:=⟨l.dropLast,l.getLast (by intro z;rw [z] at hl;simp at hl),(List.dropLast_concat_getLast _).symm⟩
    have hl1:l1.length=m:=by simpa using hl
    unfold zgt
    rw [List.range_succ,List.map_append]
    refine Vals.append (ih l1 hl1 fun j v h=>hj j v (by rw [List.getElem?_append_left (List.getElem?_eq_some_iff.mp h).1];exact h)) (.cons ?_ .nil)
    obtain ⟨t,e⟩:=hj m x (by rw [List.getElem?_append_right (by lia),hl1];simp)
    exact ⟨t,by rw [e];congr 1;lia⟩
  exact go n acc.toList (by rw [Array.length_toList];exact it.1) fun j v h=>it.2 j v (by simpa using h)
 refine ⟨.ref s.heap.objs.size,_,I.laid (a:=s.heap.objs.size) (o:=.lst (zgt n)) (t':=tk) (fun b u z=>k b u z) (Nat.le_refl _) ⟨?_,acc.toList,c',vv,by simpa using e1⟩,rfl,q _ (I.hok.fresh (Nat.le_refl _))⟩
 unfold zgt
 rw [List.length_map,List.length_range]
 exact Nat.le_trans hn (by decide)
def rInD (K:W.Frag) : R2:=fun x y H Q=>∃ d ds,Den K H x d/\Den K H y (.list ds)/\d.canLay0=true/\PyData.canLayAll0 ds=true/\d.depth<=60/\Q (.bl (ds.any fun e=>PyData.eqv e d)) H
theorem zni (hu:X.A.units+64<cLine) : OpR X (compareOp .In) (rInD X.K):=by
 intro pins s σ H x y v u Q I rx ry ⟨d,ds,h1,h2,s1,s2,s3,q⟩
 obtain ⟨as,r1⟩:=zaN I h1 rx
 obtain ⟨bs,r2⟩:=zaN I h2 ry
 refine SeqAt.in_list_reads r2 r1 s2 s1 ?_ ⟨.bl _,H,I,rfl,q⟩
 have:=Nat.min_le_right (PyData.depthAll ds) d.depth
 lia
theorem zn6 {a b:Expr}{ta tb:TE}{pos:Pos}{k:Nat}(hr:Room k X.A)(ha:JE X a ta)(hb:JE X b tb)(hm:∀ r,behindInMarks .In b=r->r=false:=by intro _ h;exact h ▸ rfl) : JT X (.Compare a [.In] [b] pos) (zb3 (tOp (rInD X.K) ta tb)):=⟨zfB (zni hr.units) ha.h hb.h (hm _ rfl)⟩
end
theorem zmP {P:Program}{w:World}{k:Key}{u:Value}(h:(zaL P w).is k u=true) : RelV (kV k) u:=by
 rcases zaD h with ⟨i,t,rfl,rfl⟩ | ⟨x,t,rfl,rfl⟩
 ·exact ⟨t,rfl⟩
 ·exact ⟨t,rfl⟩
section
variable {X:Cx}{pins:List (Addr×Obj)}{σ:St}{H:Hp}{s:Shared}
theorem Inv.freezeK {d:Addr}{kvs:List (Key×V)}(I:Inv X pins σ H s)(h:H d=some (.dK kvs)) : ∃ o,s.heap.get? d=some o/\Inv X pins σ (upd H d (.frz o (.dK kvs))) s:=by
 obtain ⟨z,hd,vs,rel,dd⟩:=I.hok d _ h
 obtain ⟨o,es,ep,ho,r⟩:=id dd
 exact ⟨o,ho,I.write (x:=d) (e:=d) (o:=.frz o (.dK kvs)) (h':=s.heap) (t':=s.toks) (by rw [h];exact True.intro) (.inl rfl) (fun b u _ q=>q) ⟨o,ho⟩ ⟨ho,z,hd,vs,rel,dd⟩⟩
def Iti (o:Obj)(d:Addr)(kvs:List (Key×V)) : It :=
  ⟨fun i H=>H d=some (.frz o (.dK kvs))/\i<kvs.length,
   fun i H v H'=>∃ T p,v=.ref T/\H T=none/\H'=upd H T (.tup [kV p.1,p.2])/\kvs[i]?=some p,
   fun i H=>H d=some (.frz o (.dK kvs))/\kvs.length<=i⟩
theorem zhw {d:Addr}{o:Obj}{kvs:List (Key×V)}{es:Array DictEntry}{ep:Nat}(I:Inv X pins σ H s)(h:H d=some (.frz o (.dK kvs)))(hdt:o.data=.dict es ep) :
  ∃ vs:List (Key×Value),KV kvs vs/\s.heap.DictAt (zaL X.prog X.w) d vs ep/\(d == sysModules)=false:=by
 obtain ⟨ho,z,hd,vs,rel,o',es',ep',ho',ex,dt,r⟩:=I.hok d _ h
 rw [ho] at ho'
 cases ho'
 rw [hdt] at dt
 cases dt
 exact ⟨vs,rel,⟨o,es,ho,ex,hdt,r⟩,hd⟩
theorem zis {P:Program}{w:World}{K:W.Frag}{elts:List Expr}{x1}{pos:Pos}{o:Obj}{es:Array DictEntry}{ep:Nat}{kvs:List (Key×V)}(d it:Addr)(hne:d≠it)(hdt:o.data=.dict es ep) :
  Turn P w K (.Tuple elts x1 pos) (Iti o d kvs) [it] it (fun i h=>∃ ok ov,IsItemIter h it d i kvs.length ep ok ov) where
 mem:=by simp
 obj:=fun i h st b hb=>by
  have e:b=it:=by simpa using hb
  subst e
  obtain ⟨ok,ov,e⟩:=st
  exact ⟨_,e,fun v z=>by cases z⟩
 keep:=fun i h h' st k=>by obtain ⟨ok,ov,e⟩:=st;exact ⟨ok,ov,k it (by simp) _ e⟩
 item:=by
  intro X hP hw hK hc i pins s σ H E I hf st hg
  subst hP hw hK
  obtain ⟨hH,hi⟩:=hg
  obtain ⟨vs,rel,da,hd⟩:=zhw I hH hdt
  obtain ⟨ok,ov,st⟩:=st
  have lv:kvs.length=vs.length:=Paired.length rel
  rw [lv] at st
  have lt1:it<s.heap.objs.size:=Heap.lt_size st
  obtain ⟨p,hp⟩ : ∃ p,kvs[i]?=some p:=⟨kvs[i],by simp [hi]⟩
  obtain ⟨q,hq,r1,r2⟩:=zan rel hp
  refine wpAny_pyNext_items_item st da (k:=q.1) (v:=q.2) hq fun key h' hk e1 e2 e3 kk=>?_
  refine ⟨_,rfl,wpAny_letOwnedTupleGo_items e1 fun h'' w1 w2=>?_⟩
  have st':∃ ok ov,IsItemIter h'' it d (i+1) kvs.length ep ok ov:=⟨_,_,by rw [lv];exact w1⟩
  have vv:Vals [kV p.1,p.2] [key,q.2]:=.cons (by rw [r1];exact zmP hk) (.cons r2 .nil)
  have q5':=w2.extBut _ _ (Nat.ne_of_gt lt1) e2
  have I1:Inv X pins σ (upd H s.heap.objs.size (.tup [kV p.1,p.2])) { s with heap:=h'',toks:=s.toks }:=I.turnedT (t':=s.toks) hf (fun b o hb e=>w2.extBut b o (by simpa using hb) (kk b o (by simpa using hb) e)) (fun b hb=>by
   have e:b=it:=by simpa using hb
   subst e
   exact ⟨_,w1⟩) (Nat.le_refl _) ⟨by show 2<=sizeLine;decide,[key,q.2],vv,_,q5',rfl,_,rfl⟩
  refine ⟨.ref s.heap.objs.size,_,I1,rfl,⟨_,p,rfl,I.hok.fresh (Nat.le_refl _),rfl,hp⟩,st',fun b hb=>?_⟩
  have e:b=it:=by simpa using hb
  subst e
  rw [zam (fun (z:b=s.heap.objs.size)=>absurd lt1 (by rw [<- z];exact Nat.lt_irrefl _))]
  exact (hf b (by simp)).1
 done:=by
  intro X hP hw hK hc i pins s σ H E I hf st hg
  subst hP hw hK
  obtain ⟨hH,hi⟩:=hg
  obtain ⟨vs,rel,da,hd⟩:=zhw I hH hdt
  obtain ⟨ok,ov,st⟩:=st
  have lv:kvs.length=vs.length:=Paired.length rel
  rw [lv] at st
  refine wpAny_pyNext_items_end (I.ok.hd hc) st da (List.getElem?_eq_none (by lia)) fun h' kk=>⟨rfl,I.turnedS (t':=s.toks) hf fun b o hb e=>kk b o (by simpa using hb) e⟩
 self:=fun A i s Q E st h=>by
  obtain ⟨ok,ov,st⟩:=st
  exact W.kcp_self st h
def zlq (td:TE) : TI:=fun σ H R=>td σ H fun x H1=>∃ (d:Addr) (kvs:List (Key×V)),x=.ref d/\H1 d=some (.dK kvs)/\∀ o,R (Iti o d kvs) (upd H1 d (.frz o (.dK kvs)))
theorem zla {elts:List Expr}{x1}{ps:Pos}{o:Expr}{td:TE}{apos cpos:Pos}(ho:PE X o td)(hbase:attributeBase o "items" X.env (eval o X.env)=eval o X.env)(hline:(apos.endLine == cpos.line)=true) : PI X (.Tuple elts x1 ps) (.Call (.Attribute o "items" apos) [] [] cpos) (zlq td):=by
 intro pins s σ H R I h
 refine wpAny_Call_method0_late hbase hline (thn (ho pins s σ H _ I h) fun v s1 ⟨x,H1,I1,r1,d,kvs,e1,e,q⟩=>?_)
 subst e1
 cases r1
 obtain ⟨t1,t2,hd⟩:=znD I1 (.inl ⟨kvs,.inl e⟩)
 obtain ⟨ob,hob,I2⟩:=I1.freezeK e
 obtain ⟨z,_,vs,rel,dd⟩:=I1.hok d _ e
 obtain ⟨ob',es,ep,hob',ex,dt,r⟩:=id dd
 rw [hob] at hob'
 cases hob'
 refine ⟨"dict","dict.items", PySem.F.plainAttrs_dict,PySem.F.slot_dict_items,PySem.F.type_dict_items,t1,t2,Calls.callWith_builtin rfl (PySem.evalArgs_none ?_)⟩
 refine wpAny_call_entry PySem.F.slot_dict_items t1 PySem.F.entry_dict_items ?_ (PySem.F.args_dict_items_1 _)
 refine wpAny_bind ?_;unfold Builtin.Dict.noArgs
 refine wpAny_bind (wpAny_notOrdered_dict t1 ?_);show wpAny _ _ (pure d) _ _ s1
 refine wpAny_pure ?_;show wpAny _ _ (Builtin.Dict.showsAll d >>= _) _ _ s1
 unfold Builtin.Dict.showsAll;rw [if_neg (by rw [hd];exact Bool.false_ne_true)]
 refine wpAny_bind (wpAny_pure (wpAny_bind (wpAny_newObj_type (wpAny_pure ⟨_,rfl,?_⟩))))
 have da:(s1.heap.push { cls:=.type "dict_items", data:=.fields #[.ref d] }).DictAt (zaL X.prog X.w) d vs ep:=Heap.DictAt.push ⟨ob,es,hob,ex,dt,r⟩ _
 have I3:Inv X pins σ (upd H1 d (.frz ob (.dK kvs))) { s1 with heap:=s1.heap.push { cls:=.type "dict_items", data:=.fields #[.ref d] } }:=I2.kept (t':=s1.toks) fun b o e=>Heap.get?_push_of_some _ e
 refine wpAny_pyIter_items (s:={ s1 with heap:=s1.heap.push { cls:=.type "dict_items", data:=.fields #[.ref d] } }) ⟨_,Heap.get?_push_size _ rfl,rfl,rfl⟩ da ?_
 have hlt:d<s1.heap.objs.size:=Heap.lt_size hob
 refine ⟨_,[(s1.heap.push { cls:=.type "dict_items", data:=.fields #[.ref d] }).objs.size],_,_,_,rfl,I3.kept (t':=s1.toks) fun b o e=>Heap.get?_push_of_some _ e,zis (kvs:=kvs) d _ (Nat.ne_of_lt (Nat.lt_trans hlt (by rw [Heap.size_push];exact Nat.lt_succ_self _))) dt,⟨.none,.none,?_⟩,fun b hb=>?_,q ob⟩
 ·have lv:kvs.length=vs.length:=Paired.length rel
  rw [lv]
  exact Heap.get?_push_size _ rfl
 ·have eb:b=(s1.heap.push { cls:=.type "dict_items", data:=.fields #[.ref d] }).objs.size:=by simpa using hb
  subst eb
  exact I3.fpOk (Nat.le_refl _) (I3.hok.fresh (Nat.le_refl _))
theorem zkj {elts:List Expr}{x1}{ps:Pos}{o:Expr}{to:TE}{apos cpos:Pos}(ho:JE X o to)(hbase:attributeBase o "items" X.env (eval o X.env)=eval o X.env:=by rfl)(hline:(apos.endLine == cpos.line)=true:=by rfl) :
  JI X (.Tuple elts x1 ps) (.Call (.Attribute o "items" apos) [] [] cpos) (zlq to):=⟨zla ho.h hbase hline⟩
end
theorem ziN {o:Obj}{d:Addr}{kvs:List (Key×V)}{g:TG}{tb:TS}{D:Ends}{σ:St}{H:Hp}(Pv:Nat->St->Hp->Prop)(h0:Pv 0 σ H)(hl:∀ i σ H,i<=kvs.length->Pv i σ H->H d=some (.frz o (.dK kvs)))
  (hs:∀ (i:Nat) p T σ H,kvs[i]?=some p->Pv i σ H->H T=none->g (.ref T) σ (upd H T (.tup [kV p.1,p.2])) fun σ2 H2=>tb { D with nx:=Pv (i+1),ct:=Pv (i+1),bk:=D.nx } σ2 H2) (hd:∀ σ H,Pv kvs.length σ H->D.nx σ H) :
  ∃ W:Nat->Nat->St->Hp->Prop,(∃ m,W 0 m σ H)/\∀ i m σ H,W i m σ H ->
   ((Iti o d kvs).stop i H/\D.nx σ H)\/((Iti o d kvs).go i H/\∃ N:St->Hp->Prop,(∀ σ' H',N σ' H'->∃ m',m' < m/\W (i+1) m' σ' H')/\∀ x H',(Iti o d kvs).yld i H x H'->g x σ H' fun σ2 H2=>tb { D with nx:=N,ct:=N,bk:=D.nx } σ2 H2):=by
 refine ⟨fun i m σ H=>m=kvs.length-i/\i<=kvs.length/\Pv i σ H,⟨kvs.length,by simp,Nat.zero_le _,h0⟩,?_⟩
 rintro i m σ H ⟨rfl,hi,p⟩
 have q1:=hl i σ H hi p
 by_cases hlt:i<kvs.length
 ·refine .inr ⟨⟨q1,hlt⟩,Pv (i+1),fun σ' H' p'=>⟨kvs.length-(i+1),by lia,rfl,hlt,p'⟩,fun x H' y=>?_⟩
  obtain ⟨T,pr,rfl,hT,rfl,e⟩:=y
  exact hs i pr T σ H e p hT
 ·have e:i=kvs.length:=by lia
  subst e
  exact .inl ⟨⟨q1,Nat.le_refl _⟩,hd σ H p⟩
theorem ziF {ob:Obj}{d:Addr}{kvs:List (Key×V)}{g:TG}{tt:TT}{te:TE}{Q:VK}{σ:St}{H:Hp}{D:Addr}(Pv:Nat->St->Hp->Prop)(h0:Pv 0 σ H)(hl:∀ i σ H,i<=kvs.length->Pv i σ H->H d=some (.frz ob (.dK kvs)))
  (hs:∀ i p T σ H,kvs[i]?=some p->Pv i σ H->H T=none->g (.ref T) σ (upd H T (.tup [kV p.1,p.2])) fun σ2 H2=>tt σ2 H2 fun b H3=>if b=true then te σ2 H3 fun v H4=>∃ zs,H4 D=some (.lst zs)/\zs.length<sizeLine/\Pv (i+1) σ2 (upd H4 D (.lst (zs++[v]))) else Pv (i+1) σ2 H3)
  (hd:∀ σ H,Pv kvs.length σ H->Q (.ref D) H) : zcD (Iti ob d kvs) g tt te D Q σ H:=by
 refine ⟨fun i m σ H=>m=kvs.length-i/\i<=kvs.length/\Pv i σ H,⟨kvs.length,by simp,Nat.zero_le _,h0⟩,?_⟩
 rintro i m σ H ⟨rfl,hi,p⟩
 have q1:=hl i σ H hi p
 by_cases hlt:i<kvs.length
 ·refine .inr ⟨⟨q1,hlt⟩,Pv (i+1),fun σ' H' p'=>⟨kvs.length-(i+1),by lia,rfl,hlt,p'⟩,fun x H' y=>?_⟩
  obtain ⟨T,pr,rfl,hT,rfl,e⟩:=y
  exact hs i pr T σ H e p hT
 ·have e:i=kvs.length:=by lia
  subst e
  exact .inl ⟨⟨q1,Nat.le_refl _⟩,hd σ H p⟩
theorem zfz {α β:Type}{R:α->β->Prop} : ∀ {xs:List α} {ys:List β} {i:Nat} {y:β},Paired R xs ys->ys[i]?=some y->∃ x,xs[i]?=some x/\R x y
 | _,_,0,_,.cons r _,h=>by simp at h;exact ⟨_,rfl,h ▸ r⟩
 | _,_,i+1,_,.cons _ t,h=>by simp at h;obtain ⟨x,a,b⟩:=zfz t h;exact ⟨x,by simpa using a,b⟩
section
variable {prog:Program}{w:World}{A:Around}{E:Value->Shared->Prop}{s:Shared}
theorem zgR {nm:String}{K:Type}[DecidableEq K]{knd:KeyKind prog w K}{a b:Addr}{va vb:List (K×Value)}{Q:Bool->Shared->Prop}(ha:(a == sysModules)=false)(hb:(b == sysModules)=false)
  (da:s.heap.DictOf knd a va) (db:s.heap.DictOf knd b vb) (hk:va.map (·.1)=vb.map (·.1))
  (hv:∀ (i:Nat) (k:K) (x y:Value),va[i]?=some (k,x)->vb[i]?=some (k,y)->SeqAt.EqAt A s x y true) (h:Q true s) : wpAny (model prog w) A (Builtin.Dict.samePairs nm a b) Q E s:=by
 obtain ⟨oa,ea,pa,hoa,hca,hda,hka,hpa,hna⟩:=id da
 obtain ⟨ob,eb,pb,hob,hcb,hdb,hkb,hpb,hnb⟩:=id db
 have la:ea.size=va.length:=by rw [<- hpa.length];simp
 have lb:eb.size=vb.length:=by rw [<- hpb.length];simp
 have lab:va.length=vb.length:=by have:=congrArg List.length hk;simpa using this
 unfold Builtin.Dict.samePairs Builtin.Dict.showsAll
 rw [if_neg (by rw [ha];exact Bool.false_ne_true)]
 refine wpAny_bind (wpAny_pure ?_)
 rw [if_neg (by rw [hb];exact Bool.false_ne_true)]
 refine wpAny_bind (wpAny_pure (wpAny_bind (wpAny_dictEntries hoa hda (wpAny_bind (wpAny_dictEntries hob hdb ?_)))))
 rw [if_neg (by rw [la,lb,lab];simp)]
 refine wpAny_bind (wpAny_dictEpoch hoa hda ?_)
 refine wpAny_bind ?_
 rw [Std.Legacy.Range.forIn_eq_forIn_range'];simp only [Std.Legacy.Range.size,Nat.sub_zero,Nat.add_sub_cancel,Nat.div_one]
 refine wpAny_forIn_list _ (fun rest c s'=>s'=s/\c=(none,())/\∃ i,rest=List.range' i (ea.size-i)/\i<=ea.size) _ ?_ ?_ _ _ ⟨rfl,rfl,0,by simp,Nat.zero_le _⟩
 ·rintro x rest c s' ⟨rfl,rfl,i,hr,hi⟩
  have hlt:i<ea.size:=by
   rcases Nat.lt_or_ge i ea.size with z | z
   ·exact z
   ·rw [Nat.sub_eq_zero_of_le z] at hr
    simp at hr
  have e1:ea.size-i=(ea.size-(i+1))+1:=by lia
  rw [e1,List.range'_succ] at hr
  obtain ⟨rfl,rfl⟩:=List.cons.inj hr
  refine wpAny_bind (wpAny_dictEntries hoa hda ?_)
  have hxe:ea[x]?=some ea[x]:=by simp [hlt]
  rw [hxe]
  obtain ⟨⟨k,v⟩,hva⟩ : ∃ p,va[x]?=some p:=⟨va[x]'(by lia),by simp [show x<va.length by lia]⟩
  obtain ⟨⟨k2,y⟩,hvb⟩ : ∃ p,vb[x]?=some p:=⟨vb[x]'(by lia),by simp [show x<vb.length by lia]⟩
  have ek:k=k2:=by
   have h1:(va.map (·.1))[x]?=some k:=by rw [List.getElem?_map,hva];rfl
   have h2:(vb.map (·.1))[x]?=some k2:=by rw [List.getElem?_map,hvb];rfl
   rw [hk,h2] at h1
   exact (Option.some.inj h1).symm
  subst ek
  have ge:ea.toList[x]?=some ea[x]:=by simpa using hxe
  obtain ⟨hi1,hi2⟩:=hpa.get? ge hva
  obtain ⟨k',hk',hh'⟩:=hka ea[x] (Array.getElem_mem hlt)
  have ekk:k'=k:=knd.inj _ _ _ hk' hi1
  subst ekk
  have hvv:=hv x k' v y hva hvb
  have hf:(eb.findIdx? fun e=>knd.is k' e.key)=some x:=by
   have h1:=hpb.findIdx k'
   rw [ze5 hnb hvb] at h1
   rw [<- h1]
   obtain ⟨l⟩:=eb;simp
  have hlb:x<eb.size:=by lia
  have geb:eb.toList[x]?=some eb[x]:=by simp [hlb]
  obtain ⟨_,hj2⟩:=hpb.get? geb hvb
  refine wpAny_bind (wpAny_holding (wpAny_bind ?_))
  rw [hh']
  refine wpAny_dictFind_of hi1 hob hdb hkb ?_
  rw [hf]
  refine wpAny_bind (wpAny_dictEntries hob hdb ?_)
  have hxb:eb[x]?=some eb[x]:=by simp [hlb]
  rw [hxb]
  refine wpAny_holding ?_
  rw [hi2,hj2]
  refine hvv prog w _ _ ?_
  refine wpAny_bind (wpAny_dictEpoch hoa hda ?_)
  rw [if_neg (by simp)]
  exact wpAny_pure ⟨rfl,rfl,x+1,rfl,by lia⟩
 ·rintro c s' ⟨rfl,rfl,_⟩
  exact wpAny_pure h
end
section
variable {X:Cx}{k:Nat}
def zox (K:W.Frag) : R2:=fun x y H Q=>∃ a b kvs kvs',x=.ref a/\y=.ref b/\Rd H a (.dK kvs)/\Rd H b (.dK kvs')/\kvs.map (·.1)=kvs'.map (·.1) /\
 (∀ (i:Nat) (p p':Key×V),kvs[i]?=some p->kvs'[i]?=some p'->∃ d d',Den K H p.2 d/\Den K H p'.2 d'/\SeqAt.shaped d=true/\SeqAt.shaped d'=true/\d.depth<=10/\PyData.eqv d d'=true)/\Q (.bl true) H
theorem znw (hr:Room k X.A) : JOp X (compareOp .Eq) (zox X.K):=by
 refine ⟨fun pins s σ H x y v u Q I rx ry h=>?_⟩
 obtain ⟨a,b,kvs,kvs',rfl,rfl,ha,hb,hk,hv,q⟩:=h
 cases rx
 cases ry
 obtain ⟨z,hs,va,ra,da⟩:=zgn I.hok ha
 obtain ⟨_,hs2,vb,rb,db⟩:=zgn I.hok hb
 have e1:va.map (·.1)=vb.map (·.1):=by
  have go:∀ {kvs:List (Key×V)} {vs:List (Key×Value)},KV kvs vs->kvs.map (·.1)=vs.map (·.1):=fun {kvs vs} p=>by
   induction p with
   | nil=>rfl
   | cons r _ ih=>rw [List.map_cons,List.map_cons,ih,r.1]
  rw [<- go ra,<- go rb];exact hk
 refine wpAny_richCompare_same_room (op:=.Eq) da.typeIs db.typeIs F.slot_dict_eq (wpAny_call_entry F.slot_dict_eq da.typeIs F.entry_dict_eq ?_ (F.args_dict_eq_2 _ _)) (by have:=hr.units;lia)
 unfold Builtin.«dict.__eq__»
 show wpAny _ _ (Builtin.Dict.dictSlotArgs "__eq__" ⟨[.ref a,.ref b],[]⟩ >>= _) _ _ s
 refine wpAny_bind ?_
 unfold Builtin.Dict.dictSlotArgs
 refine wpAny_bind (wpAny_notOrdered_dict da.typeIs ?_)
 show wpAny _ _ (pure (Value.ref a,Value.ref b)) _ _ s
 refine wpAny_pure ?_
 refine wpAny_bind (wpAny_isInstance db.typeIs isSubtype_dict_dict ?_)
 simp only [Bool.not_true,Bool.false_eq_true,if_false]
 have e3:∀ c:Addr,Builtin.Dict.addrOf (Value.ref c)=pure c:=fun _=>rfl
 rw [e3,e3]
 refine wpAny_bind (wpAny_pure ?_)
 refine wpAny_bind (wpAny_pure ?_)
 refine wpAny_bind ?_
 refine zgR (knd:=zaL X.prog X.w) hs hs2 da db e1 (fun i c x y h1 h2=>?_) ?_
 ·obtain ⟨p,hp,r1⟩:=zfz ra h1
  obtain ⟨p',hp',r2⟩:=zfz rb h2
  obtain ⟨d,d',D1,D2,s1,s2,dp,ev⟩:=hv i p p' hp hp'
  obtain ⟨as,R1⟩:=zaN I D1 r1.2
  obtain ⟨bs,R2⟩:=zaN I D2 r2.2
  have hs1:=s1
  have hs2:=s2
  unfold SeqAt.shaped at hs1 hs2
  rw [Bool.and_eq_true] at hs1 hs2
  rw [<- ev]
  refine SeqAt.eqAt_reads d d' _ s x y _ _ R1 R2 hs1.1 hs2.1 ?_
  have h3:=Nat.min_le_left d.depth d'.depth
  have h4:=hr.units
  show X.A.units+1+min d.depth d'.depth<cLine
  lia
 show wpAny _ _ (ret (Value.bool true)) _ _ _
 exact wpAny_pure ⟨.bool true,rfl,(fun y=>Value.noConfusion y),.bl true,H,I,rfl,q⟩
end
section
variable {X:Cx}
theorem zmj:JC X (.type "dict") (fun xs H Q=>∃ d kvs,xs=[.ref d]/\Rd H d (.dK kvs)/\∀ p,H p=none->Q (.ref p) (upd H p (.dK kvs))):=by
 refine ⟨fun pins s σ H xs us Q I r h=>?_⟩
 obtain ⟨d,kvs,rfl,hd,q⟩:=h
 obtain ⟨u,rfl,ru⟩:=vals1 r
 cases ru
 obtain ⟨z,hs,vs0,r0,dd⟩:=zgn I.hok hd
 have hlt:d<s.heap.objs.size:=by obtain ⟨o,_,_,e,_⟩:=dd;exact Heap.lt_size e
 refine callType_codes (Q₁:=fun obj s₁=>obj=.ref s.heap.objs.size/\s₁={ s with heap:=s.heap.push { cls:=.type "dict", data:=.dict #[] } }) F.kt_called_dict (F.kt_typeCall_dict_1 _) F.entry_dict_init (kt_code_dict_new _ ⟨rfl,rfl⟩) ?_
 rintro obj s₁ ⟨rfl,rfl⟩
 obtain ⟨_,hb,vs1,r1,d1⟩:=zic (P:=X.prog) (w:=X.w) (H:=H) s.heap I.big
 cases r1
 have d2:(s.heap.push { cls:=.type "dict", data:=.dict #[] }).DictOf (zaL X.prog X.w) d vs0:=dd.push _
 have hT:Shared.TypeIs { s with heap:=s.heap.push { cls:=.type "dict", data:=.dict #[] } } (.ref s.heap.objs.size) "dict" := d1.typeIs
 have hT2:Shared.TypeIs { s with heap:=s.heap.push { cls:=.type "dict", data:=.dict #[] } } (.ref d) "dict" := d2.typeIs
 refine ⟨hT,F.args_dict_init_2 _ _,?_⟩
 unfold Builtin.«dict.__init__»
 refine wpAny_bind ?_;unfold Builtin.Dict.selfAndRest
 refine wpAny_bind (wpAny_notOrdered_dict hT (wpAny_pure ?_))
 show wpAny _ _ (Builtin.Dict.updateFrom "dict.__init__" s.heap.objs.size (.ref d) [] .none) _ _ _
 unfold Builtin.Dict.updateFrom;refine wpAny_bind (wpAny_typeOf hT2 ?_)
 rw [if_neg (by decide)];refine wpAny_bind ?_
 unfold Builtin.Dict.merge;refine wpAny_bind ?_
 unfold Builtin.Dict.readDirectly;refine wpAny_bind (wpAny_isInstance hT2 isSubtype_dict_dict ?_)
 simp only [Bool.not_true,Bool.false_eq_true,if_false];refine wpAny_bind (wpAny_specialOf hT2 F.slot_dict_iter.lookup (wpAny_pure ?_))
 simp only [beq_self_eq_true,if_true];refine wpAny_bind (wpAny_pure ?_)
 have hl0:vs0.length<=sizeLine:=by rw [<- r0.length];exact z
 refine wpAny_mergeDict (hsz:=by simpa using hl0) (Nat.ne_of_gt hlt) hs d1 d2 fun h' e1 e2 sb=>?_
 have hn:(vs0.map (·.1)).Nodup:=by obtain ⟨_,_,_,_,_,_,_,_,n⟩:=dd;exact n
 rw [merged_nil_of_nodup vs0 hn] at e1
 show wpAny _ _ (Builtin.Dict.addKeywords s.heap.objs.size [] >>= _) _ _ _
 refine wpAny_bind (wpAny_pure (wpAny_pure ⟨rfl,.ref s.heap.objs.size,_,I.laid (t':=s.toks) (o:=.dK kvs) (fun b o e=>?_) (Nat.le_refl _) (zlB z hb r0 e1),rfl,q _ (I.hok.fresh (Nat.le_refl _))⟩))
 exact (sb.2 b (Nat.ne_of_lt (Heap.lt_size e))).trans (Heap.get?_push_of_some _ e)
end
end L2
namespace L2
open PySem PySem.Spec PyProof.Rows
theorem acc {X:Cx}{p:Pos}{elt:Expr}{gs:List Comprehension}{sc:Scope}{te:TE}{es:List Expr}{t:TA}(ha:JE X (.ListComp elt gs sc p) te)(hr:JA X es t) : JA X (.ListComp elt gs sc p::es) (zaf te t):=⟨zhj ha.h hr.h (Nst.star (.comp ..) _ _),.cons (.comp ..) hr.pl⟩
end L2
namespace Prf
open PySem L2 Wr
theorem zgb (cs:List Nat)(i:Nat) : colV (cs++[i])=colV cs++[.int (i:Int)]:=by unfold colV;rw [List.map_append];rfl
section
variable {P:Program}{w:World}{K:PySem.W.Frag}{mg:Str->Option Value}{base:Heap}
def zaV:Sp:=fun vs H Q _=>∃ (n:Int) (z:Nat) (p:Addr) (x y u:Int),vs=[.int n,.int z,.ref p]/\0<=n/\0<z/\H p=some (.lst [.int x,.int y,.int u])/\∀ (t:Addr) (H':Hp) (c:Cond),Same H H'->CondAt H' (.ref t) c->c.ok z->c.deep=0->Q (.ref t) H'
theorem zaY:FnScope ["_law_number","_law_size","_law_pool_here","_law_i"] ["_law_number","_law_size","_law_pool_here"] (zad za0):=by walk_at "sc"
theorem modN (n:Int){z:Nat}(h:0<z) : ∃ i:Nat,n % (z:Int)=(i:Int)/\i<z:=by
 have h1:=Int.emod_nonneg n (show (z:Int)≠0 by lia)
 have h2:=Int.emod_lt_of_pos n (show (0:Int)<(z:Int) by lia)
 exact ⟨(n % (z:Int)).toNat,by lia,by lia⟩
theorem zbI {f:Addr}{fd:FuncData}(F:Fun K "_law_plain_condition" "_law_plain_condition" za0 f fd) : FnOk P w K mg base CX0 1 f fd ["_law_number","_law_size","_law_pool_here"] zaV:=by
 refine F.okJ zaY (fun vs H Q E h=>?_) (fun cdv A outer s H vs Q E hr h=>?_)
 ·obtain ⟨_,_,_,_,_,_,rfl,_⟩:=h
  rfl
 ·obtain ⟨n,z,p,x,y,u,rfl,n0,z0,hp,k⟩:=h
  refine ⟨_,(zab (zar 3 zaY.nd (e_op zaC (e_op zaT (e_v 0) e_i) (e_v 1)))
   (zab (s_if (zap o_eq (e_op zaC (e_v 0) e_i) e_i) (zac (zaj (zaJ (ac e_s (ac (e_v 3) (a1 (e_op zaC (e_op zaT (e_v 0) e_i) (e_v 1)))))))) zaq)
   (zab (s_if (zap o_eq (e_op zaC (e_v 0) e_i) e_i) (zac (zaj (zaJ (ac e_s (ac (e_v 3) (a1 (e_ix zaw (e_v 2) (e_op zaC (e_op zaT (e_v 0) e_i) e_i)))))))) zaq)
   (zab (s_if (zap o_eq (e_op zaC (e_v 0) e_i) e_i) (zac (zaj (zaJ (ac e_s (ac (e_v 3) (a1 (e_op zaC (e_op zaT (e_v 0) e_i) (e_v 1)))))))) zaq)
   (zac (zaj (zaJ (ac e_s (ac (e_v 3) (a1 (e_ix zaw (e_v 2) (e_op zaC (e_op zaT (e_v 0) e_i) e_i)))))))))))),?_⟩
  have zp:(0:Int)<(z:Int):=by lia
  refine ⟨_,rfl,_,_,rfl,rfl,⟨by decide,by decide⟩,_,rfl,_,_,rfl,rfl,zp,?_⟩
  obtain ⟨i,ei,hi⟩:=modN (n / 4) z0
  show tSeq _ _ _ [some (.int n),some (.int z),some (.ref p),some (.int (n / 4 % (z:Int)))] H
  rw [ei]
  obtain ⟨j,ej,hj⟩:=modN (n / 60) z0
  have m1:0<=n / 60 % 3:=Int.emod_nonneg _ (by decide)
  have m2:n / 60 % 3<3:=Int.emod_lt_of_pos _ (by decide)
  obtain ⟨d,_,ed⟩:=zhE (ns:=[x,y,u]) m1 (by simpa using m2)
  refine ⟨_,rfl,_,_,rfl,rfl,pz,rfl,_,rfl,?_⟩
  refine ite2 (fun _=>?_) (fun _=>?_)
  ·refine ⟨_,rfl,_,rfl,_,_,rfl,rfl,⟨by decide,by decide⟩,_,rfl,_,_,rfl,rfl,zp,by show 3<=sizeLine;decide,fun t ht=>?_⟩
   show Q (.ref t) (upd H t (.tup [.str "same", .int i,.int (n / 60 % (z:Int))]))
   rw [ej]
   exact k t _ (.same i j) ((Same.refl H).upd ht) ⟨t,rfl,zaa⟩ ⟨hi,hj⟩ rfl
  refine ⟨_,rfl,_,_,rfl,rfl,pz,rfl,_,rfl,?_⟩
  refine ite2 (fun _=>?_) (fun _=>?_)
  ·refine ⟨_,rfl,_,rfl,_,rfl,_,_,rfl,rfl,⟨by decide,by decide⟩,_,_,rfl,rfl,pz,ixL hp ed ⟨by show 3<=sizeLine;decide,fun t ht=>?_⟩⟩
   exact k t _ (.isv i d) ((Same.refl H).upd ht) ⟨t,rfl,zaa⟩ hi rfl
  refine ⟨_,rfl,_,_,rfl,rfl,pz,rfl,_,rfl,?_⟩
  refine ite2 (fun _=>?_) (fun _=>?_)
  ·refine ⟨_,rfl,_,rfl,_,_,rfl,rfl,⟨by decide,by decide⟩,_,rfl,_,_,rfl,rfl,zp,by show 3<=sizeLine;decide,fun t ht=>?_⟩
   show Q (.ref t) (upd H t (.tup [.str "below", .int i,.int (n / 60 % (z:Int))]))
   rw [ej]
   exact k t _ (.less i j) ((Same.refl H).upd ht) ⟨t,rfl,zaa⟩ ⟨hi,hj⟩ rfl
  ·refine ⟨_,rfl,_,rfl,_,rfl,_,_,rfl,rfl,⟨by decide,by decide⟩,_,_,rfl,rfl,pz,ixL hp ed ⟨by show 3<=sizeLine;decide,fun t ht=>?_⟩⟩
   exact k t _ (.undr i d) ((Same.refl H).upd ht) ⟨t,rfl,zaa⟩ hi rfl
def zbF:Sp:=fun vs H Q _=>∃ (c k:Int) (z:Nat) (p:Addr) (x y u:Int),vs=[.int c,.int k,.int z,.ref p]/\0<=k/\k<=100/\0<z/\H p=some (.lst [.int x,.int y,.int u])/\∀ (t:Addr) (H':Hp) (cd:Cond),Same H H'->CondAt H' (.ref t) cd->cd.ok z->cd.deep<=2->Q (.ref t) H'
theorem zbz:FnScope ["_law_cell","_law_k","_law_size","_law_pool_here","_law_one","_law_other","_law_way"] ["_law_cell","_law_k","_law_size","_law_pool_here"] (zad zbA):=by walk_at "sc"
theorem zdw {f:Addr}{fd:FuncData}(F:Fun K "_law_condition" "_law_condition" zbA f fd)(F__law_mixed:FnP P w K mg base 1 "_law_mixed" ["_law_cell","_law_k"] zal)(F__law_plain_condition:FnP P w K mg base 1 "_law_plain_condition" ["_law_number","_law_size","_law_pool_here"] zaV) : FnOk P w K mg base CX0 2 f fd ["_law_cell","_law_k","_law_size","_law_pool_here"] zbF:=by
 refine F.okJ zbz (fun vs H Q E h=>?_) (fun cdv A outer s H vs Q E hr h=>?_)
 ·obtain ⟨_,_,_,_,_,_,_,rfl,_⟩:=h
  rfl
 ·obtain ⟨c,k,z,p,x,y,u,rfl,k0,k1,z0,hp,kk⟩:=h
  have nd:=zbz.nd
  refine ⟨_,(zab (zar 4 nd (e_fn F__law_plain_condition hr (ac (e_fn F__law_mixed hr (ac (e_v 0) (a1 (e_op zaM (e_v 1) e_i)))) (ac (e_v 2) (a1 (e_v 3))))))
   (zab (zar 5 nd (e_fn F__law_plain_condition hr (ac (e_fn F__law_mixed hr (ac (e_v 0) (a1 (e_op zaM (e_v 1) e_i)))) (ac (e_v 2) (a1 (e_v 3))))))
   (zab (zar 6 nd (e_op zaC (e_fn F__law_mixed hr (ac (e_v 0) (a1 (e_op zaM (e_v 1) e_i)))) e_i))
   (zab (s_if (zap o_eq (e_v 6) e_i) (zac (zaj (zaJ (ac e_s (ac (e_v 4) (a1 (e_v 5))))))) zaq)
   (zab (s_if (zap o_eq (e_v 6) e_i) (zac (zaj (zaJ (ac e_s (ac (e_v 4) (a1 (zaJ (ac e_s (a1 (e_v 5)))))))))) zaq)
   (zab (s_if (zap o_eq (e_v 6) e_i) (zac (zaj (zaJ (ac e_s (a1 (zaJ (ac e_s (ac (e_v 5) (a1 (e_v 4)))))))))) zaq)
   (zac (zaj (e_v 4))))))))),?_⟩
  refine ⟨_,rfl,_,rfl,_,_,rfl,rfl,c,_,rfl,by lia,by lia,fun n1 n10 n11=>?_⟩
  refine ⟨_,rfl,_,rfl,n1,z,p,x,y,u,rfl,n10,z0,hp,fun t1 H1 c1 s1 h1 o1 d1=>?_⟩
  refine ⟨_,rfl,_,rfl,_,_,rfl,rfl,c,_,rfl,by lia,by lia,fun n2 n20 n21=>?_⟩
  refine ⟨_,rfl,_,rfl,n2,z,p,x,y,u,rfl,n20,z0,s1 _ _ hp,fun t2 H2 c2 s2 h2 o2 d2=>?_⟩
  have s12:=s1.trans s2
  have h1':=h1.same s2
  refine ⟨_,rfl,_,rfl,_,_,rfl,rfl,c,_,rfl,by lia,by lia,fun n3 n30 n31=>?_⟩
  refine ⟨_,_,rfl,rfl,pz,?_⟩
  refine ⟨_,rfl,rfl,_,rfl,ite2 (fun _=>?_) (fun _=>?_)⟩
  ·refine ⟨_,rfl,_,rfl,by show 3<=sizeLine;exact sm,fun t ht=>?_⟩
   have s3:Same H2 (upd H2 t (.tup [.str "both", .ref t1,.ref t2])):=(Same.refl H2).upd ht
   exact kk t _ (.both c1 c2) (s12.trans s3) ⟨t,_,_,rfl,zaa,h1'.same s3,h2.same s3⟩ ⟨o1,o2⟩ (by show max c1.deep c2.deep+1<=2;rw [d1,d2];decide)
  refine ⟨_,rfl,rfl,_,rfl,ite2 (fun _=>?_) (fun _=>?_)⟩
  ·refine ⟨_,rfl,_,rfl,by show 2<=sizeLine;exact sm,fun t ht=>?_⟩
   obtain ⟨H3,e,s3,u3⟩:=fresh (.tup [.str "not", .ref t2]) ht;rw [e];clear e
   refine ⟨by show 3<=sizeLine;exact sm,fun r hr'=>?_⟩
   have s4:Same H3 (upd H3 r (.tup [.str "either", .ref t1,.ref t])):=(Same.refl H3).upd hr'
   exact kk r _ (.either c1 (.neg c2)) (s12.trans (s3.trans s4)) ⟨r,_,_,rfl,zaa,h1'.same (s3.trans s4),t,_,rfl,s4 _ _ u3,h2.same (s3.trans s4)⟩ ⟨o1,o2⟩ (by show max c1.deep (c2.deep+1)+1<=2;rw [d1,d2];decide)
  refine ⟨_,rfl,rfl,_,rfl,ite2 (fun _=>?_) (fun _=>?_)⟩
  ·refine ⟨_,rfl,_,rfl,by show 3<=sizeLine;exact sm,fun t ht=>?_⟩
   obtain ⟨H3,e,s3,u3⟩:=fresh (.tup [.str "both", .ref t2,.ref t1]) ht;rw [e];clear e
   refine ⟨by show 2<=sizeLine;exact sm,fun r hr'=>?_⟩
   have s4:Same H3 (upd H3 r (.tup [.str "not", .ref t])):=(Same.refl H3).upd hr'
   exact kk r _ (.neg (.both c2 c1)) (s12.trans (s3.trans s4)) ⟨r,_,rfl,zaa,t,_,_,rfl,s4 _ _ u3,h2.same (s3.trans s4),h1'.same (s3.trans s4)⟩ ⟨o2,o1⟩ (by show max c2.deep c1.deep+1+1<=2;rw [d1,d2];decide)
  exact ⟨_,rfl,kk t1 H2 c1 s12 h1' o1 (by rw [d1];decide)⟩
theorem zil {due sz:Nat}{H:Hp}{D:Addr}{Q:VK}(z0:0<sz)(d10:due<=10)(hD:H D=none)(k:∀ (H':Hp) (cs:List Nat),Same H H'->H' D=some (.lst (colV cs))->(∀ i∈cs,i<sz)->cs.length=due->Q (.ref D) H') :
  zcD (Itr 0 due) (zas 0) tYes (tOp (rI (fun _ j=>0<j) fun i j=>.int (i % j)) (tVar 0) (tVar 1)) D Q [none,some (.int (sz:Int))] (upd H D (.lst [])):=by
 refine zbD (n:=due) (fun i σ H'=>∃ (o:Option V) (cs:List Nat),σ=[o,some (.int (sz:Int))]/\Same H H'/\H' D=some (.lst (colV cs))/\cs.length=i/\∀ i∈cs,i<sz) ⟨none,[],rfl,(Same.refl H).upd hD,zaa,rfl,fun i h=>nomatch h⟩ ?_ ?_
 ·rintro i σ H' hi ⟨o,cs,rfl,sm,hl,lc,lt⟩
  obtain ⟨j,ej,hj⟩:=modN (0+(i:Int)) z0
  refine ⟨_,rfl,_,rfl,_,_,rfl,rfl,by lia,_,hl,zah (by rw [zax];lia),_,cs++[j],rfl,sm.upd hD,by rw [zaa,zgb,<- ej],by rw [List.length_append,lc];rfl,fun x hx=>?_⟩
  rcases List.mem_append.mp hx with y | y
  ·exact lt x y
  ·rw [List.mem_singleton.mp y];exact hj
 ·rintro σ H' ⟨o,cs,rfl,sm,hl,lc,lt⟩
  exact k H' cs sm hl lt lc
def zea:Sp:=fun vs H Q _=>∃ (v:V) (sz due:Nat),vs=[v,.int (sz:Int),.int (due:Int)]/\0<sz/\due<=10/\(sz=due->Q v H) /\
 ∀ (t:Addr) (H':Hp) (cs:List Nat),Same H H'->(∀ q,QAt H v q->QAt H' (.ref t) (.columns cs q))->(∀ i∈cs,i<sz)->cs.length=due->Q (.ref t) H'
theorem zhp:FnScope ["_law_question_here","_law_size","_law_due"] ["_law_question_here","_law_size","_law_due"] (zad zd6):=by walk_at "sc"
theorem zhb {f:Addr}{fd:FuncData}(F:Fun K "_law_fit" "_law_fit" zd6 f fd)(B:Blts mg) : FnOk P w K mg base CX0 1 f fd ["_law_question_here","_law_size","_law_due"] zea:=by
 refine F.okJ zhp (fun vs H Q E h=>?_) (fun cdv A outer s H vs Q E hr h=>?_)
 ·obtain ⟨_,_,_,rfl,_⟩:=h
  rfl
 ·obtain ⟨v,sz,due,rfl,z0,d10,k1,k2⟩:=h
  have nd:(["_law_i","_law_size"] : List Str).Nodup:=by decide +kernel
  refine ⟨_,(zab (s_if (zap o_eq (e_v 1) (e_v 2)) (zac (zaj (e_v 0))) zaq)
   (zac (zaj (zaJ (ac e_s (acc (zaP (Nc:=["_law_i","_law_size"]) (js:=[none,some 1]) (g:=(zas 0)) (tt:=tYes) (te:=(tOp (rI (fun _ j=>0<j) fun i j=>.int (i % j)) (tVar 0) (tVar 1)))
   (zat rfl rfl rfl rfl (fun x c h=>by simp at h;rcases h with ⟨rfl,rfl⟩<;>rfl) rfl rfl rfl) (zcM B.range (a1 (e_v 2)))
   (fun pins C s3 H3 fp=>⟨(g_n 0 nd),.inl ⟨rfl,rfl⟩,(e_op zaC (e_v 0) (e_v 1))⟩)) (a1 (e_v 0)))))))),?_⟩
  refine ⟨_,rfl,_,rfl,rfl,_,rfl,ite2 (fun e=>?_) (fun _=>?_)⟩
  ·have e:=V.int.inj (of_decide_eq_true e)
   exact ⟨_,rfl,k1 (by lia)⟩
  refine ⟨_,rfl,_,rfl,by lia,by lia,fun D hD=>zil z0 d10 hD fun H1 cs s1 h1 lt lc=>?_⟩
  refine ⟨_,rfl,by show 3<=sizeLine;exact sm,fun t ht=>?_⟩
  have s2:Same H1 (upd H1 t (.tup [.str "columns", .ref D,v])):=(Same.refl H1).upd ht
  exact k2 t _ cs (s1.trans s2) (fun q hq=>⟨t,D,v,rfl,zaa,s2 _ _ h1,hq.same (s1.trans s2)⟩) lt lc
theorem zdE {a b:Int}{m sz:Nat}{n:Int}{H:Hp}{D:Addr}{Q:VK}(a0:1<=a)(a1:a<=10)(b0:0<=b)(b1:b<=10)(z0:0<sz)(m10:m<=10)(hD:H D=none)(k:∀ (H':Hp) (cs:List Nat),Same H H'->H' D=some (.lst (colV cs))->(∀ i∈cs,i<sz)->cs.length=m->Q (.ref D) H') :
  zcD (Itr 0 m) (zas 0) tYes (tOp (rI (fun _ j=>0<j) fun i j=>.int (i % j)) (tOp (rI0 fun i j=>.int (i+j)) (tOp (rI CDiv fun i j=>.int (i / j)) (tVar 2) (tOp (rI0 fun i j=>.int (i+j)) (tC (.int a)) (tOp (rI CMul fun i j=>.int (i*j)) (tC (.int b)) (tVar 0)))) (tVar 0)) (tVar 1)) D Q [none,some (.int (sz:Int)),some (.int n)] (upd H D (.lst [])):=by
 refine zbD (n:=m) (fun i σ H'=>∃ (o:Option V) (cs:List Nat),σ=[o,some (.int (sz:Int)),some (.int n)]/\Same H H'/\H' D=some (.lst (colV cs))/\cs.length=i/\∀ i∈cs,i<sz) ⟨none,[],rfl,(Same.refl H).upd hD,zaa,rfl,fun i h=>nomatch h⟩ ?_ ?_
 ·rintro i σ H' hi ⟨o,cs,rfl,sm,hl,lc,lt⟩
  have bi:0<=b*(0+(i:Int)):=Int.mul_nonneg b0 (by lia)
  have bj:b*(0+(i:Int))<=10*10:=Int.mul_le_mul b1 (by lia) (by lia) (by decide)
  obtain ⟨j,ej,hj⟩:=modN (n / (a+b*(0+(i:Int)))+(0+(i:Int))) z0
  refine ⟨_,rfl,_,rfl,_,_,rfl,rfl,.inl ⟨by lia,by lia⟩,_,_,rfl,rfl,_,_,rfl,rfl,⟨by lia,by lia⟩,_,rfl,_,_,rfl,rfl,_,rfl,_,_,rfl,rfl,by lia,_,hl,zah (by rw [zax];lia),_,cs++[j],rfl,sm.upd hD,by rw [zaa,zgb,<- ej],by rw [List.length_append,lc];rfl,fun x hx=>?_⟩
  rcases List.mem_append.mp hx with y | y
  ·exact lt x y
  ·rw [List.mem_singleton.mp y];exact hj
 ·rintro σ H' ⟨o,cs,rfl,sm,hl,lc,lt⟩
  exact k H' cs sm hl lt lc
def zch:Sp:=fun vs H Q _=>∃ (c k:Int) (t:Addr) (v:V) (sz:Nat),vs=[.int c,.int k,.ref t]/\0<=k/\k<=100/\H t=some (.tup [v,.int (sz:Int)])/\0<sz /\
 ∀ (r u:Addr) (H':Hp) (cs:List Nat),Same H H'->H' r=some (.tup [.ref u,.int (cs.length:Int)])->(∀ q,QAt H v q->QAt H' (.ref u) (.columns cs q))->(∀ i∈cs,i<sz)->1<=cs.length->cs.length<=3->Q (.ref r) H'
theorem zcl:FnScope ["_law_cell","_law_k","_law_one","_law_question_here","_law_size","_law_number","_law_numbers"] ["_law_cell","_law_k","_law_one"] (zad zcn):=by walk_at "sc"
theorem zex {f:Addr}{fd:FuncData}(F:Fun K "_law_columns" "_law_columns" zcn f fd)(B:Blts mg)(F__law_mixed:FnP P w K mg base 1 "_law_mixed" ["_law_cell","_law_k"] zal) : FnOk P w K mg base CX0 2 f fd ["_law_cell","_law_k","_law_one"] zch:=by
 refine F.okJ zcl (fun vs H Q E h=>?_) (fun cdv A outer s H vs Q E hr h=>?_)
 ·obtain ⟨_,_,_,_,_,rfl,_⟩:=h
  rfl
 ·obtain ⟨c,k,t,v,sz,rfl,k0,k1,ht,z0,kk⟩:=h
  have nd:=zcl.nd
  have nd3:(["_law_j","_law_size","_law_number"] : List Str).Nodup:=by decide +kernel
  refine ⟨_,(zab (zmv (e_v 2) (zjC (zbs (g_n 3 nd) (zbs (g_n 4 nd) zge))))
   (zab (zar 5 nd (e_fn F__law_mixed hr (ac (e_v 0) (a1 (e_op zaM (e_v 1) e_i)))))
   (zab (zgD 6 nd (Nc:=["_law_j","_law_size","_law_number"]) (js:=[none,some 4,some 5]) (g:=(zas 0)) (tt:=tYes) (te:=(tOp (rI (fun _ j=>0<j) fun i j=>.int (i % j)) (tOp (rI0 fun i j=>.int (i+j)) (tOp (rI CDiv fun i j=>.int (i / j)) (tVar 2) (tOp (rI0 fun i j=>.int (i+j)) (tC (.int 1)) (tOp (rI CMul fun i j=>.int (i*j)) (tC (.int 5)) (tVar 0)))) (tVar 0)) (tVar 1)))
   (zat rfl rfl rfl rfl (fun x c h=>by simp at h;rcases h with ⟨rfl,rfl⟩ | ⟨rfl,rfl⟩<;>rfl) rfl rfl rfl) (zcM B.range (a1 (e_op zaM e_i (e_op zaC (e_v 5) e_i))))
   (fun pins C s3 H3 fp=>⟨(g_n 0 nd3),.inl ⟨rfl,rfl⟩,(e_op zaC (e_op zaM (e_op zaT (e_v 2) (e_op zaM e_i (e_op zcw e_i (e_v 0)))) (e_v 0)) (e_v 1))⟩))
   (zac (zaj (zaJ (ac (zaJ (ac e_s (ac (e_v 6) (a1 (e_v 3))))) (a1 (e_cb zcd B.len PySem.boot_len (a1 (e_v 6))))))))))),?_⟩
  refine ⟨_,rfl,t,_,rfl,SqT.of ht,rfl,_,_,rfl,_,_,rfl,rfl,?_⟩
  refine ⟨_,rfl,_,rfl,_,_,rfl,rfl,c,_,rfl,by lia,by lia,fun n n0 n1=>?_⟩
  have m1:=Int.emod_nonneg n (show (3:Int)≠0 by decide)
  have m2:=Int.emod_lt_of_pos n (show (0:Int)<3 by decide)
  refine ⟨_,rfl,_,_,rfl,rfl,pz,_,_,rfl,rfl,_,rfl,by lia,by lia,fun D hD=>zdE (by decide) (by decide) (by decide) (by decide) z0 (by lia) hD fun H1 cs s1 h1 lt lc=>?_⟩
  refine ⟨_,rfl,_,rfl,by show 3<=sizeLine;exact sm,fun u hu=>?_⟩
  obtain ⟨H2,e,s2,u2⟩:=fresh (.tup [.str "columns", .ref D,v]) hu;rw [e];clear e
  refine ⟨_,rfl,D,_,rfl,.inl (SqL.of (s2 _ _ h1)),by show 2<=sizeLine;exact sm,fun r hr'=>?_⟩
  rw [zax]
  have s3:Same H2 (upd H2 r (.tup [.ref u,.int (cs.length:Int)])):=(Same.refl H2).upd hr'
  exact kk r u _ cs (s1.trans (s2.trans s3)) zaa (fun q hq=>⟨u,D,v,rfl,s3 _ _ u2,s3 _ _ (s2 _ _ h1),hq.same (s1.trans (s2.trans s3))⟩) lt (by lia) (by lia)
def zc3:Sp:=fun vs H Q _=>∃ (c k:Int) (t:Addr) (v:V) (sz:Nat),vs=[.int c,.int k,.ref t]/\0<=k/\k<=100/\H t=some (.tup [v,.int (sz:Int)])/\0<sz /\
 ∀ (r u:Addr) (H':Hp) (cs:List Nat) (ag:List Sm),Same H H'->H' r=some (.tup [.ref u,.int ((cs.length+ag.length:Nat) : Int)])->(∀ q,QAt H v q->QAt H' (.ref u) (.group cs ag q))->(∀ i∈cs,i<sz)->(∀ a∈ag,a.ok sz)->cs.length<=3->ag.length<=3->0<cs.length+ag.length->Q (.ref r) H'
theorem zcW:FnScope ["_law_cell","_law_k","_law_one","_law_question_here","_law_size","_law_number","_law_numbers","_law_sums","_law_j","_law_i"] ["_law_cell","_law_k","_law_one"] (zad zcX):=by walk_at "sc"
theorem zfH {f:Addr}{fd:FuncData}(F:Fun K "_law_group" "_law_group" zcX f fd)(B:Blts mg)(F__law_mixed:FnP P w K mg base 1 "_law_mixed" ["_law_cell","_law_k"] zal) : FnOk P w K mg base CX0 2 f fd ["_law_cell","_law_k","_law_one"] zc3:=by
 refine F.okJ zcW (fun vs H Q E h=>?_) (fun cdv A outer s H vs Q E hr h=>?_)
 ·obtain ⟨_,_,_,_,_,rfl,_⟩:=h
  rfl
 ·obtain ⟨c,k,t,v,sz,rfl,k0,k1,ht,z0,kk⟩:=h
  have nd:=zcW.nd
  have nd3:(["_law_j","_law_size","_law_number"] : List Str).Nodup:=by decide +kernel
  refine ⟨_,(zab (zmv (e_v 2) (zjC (zbs (g_n 3 nd) (zbs (g_n 4 nd) zge))))
   (zab (zar 5 nd (e_fn F__law_mixed hr (ac (e_v 0) (a1 (e_op zaM (e_v 1) e_i)))))
   (zab (zgD 6 nd (Nc:=["_law_j","_law_size","_law_number"]) (js:=[none,some 4,some 5]) (g:=(zas 0)) (tt:=tYes) (te:=(tOp (rI (fun _ j=>0<j) fun i j=>.int (i % j)) (tOp (rI0 fun i j=>.int (i+j)) (tOp (rI CDiv fun i j=>.int (i / j)) (tVar 2) (tOp (rI0 fun i j=>.int (i+j)) (tC (.int 2)) (tOp (rI CMul fun i j=>.int (i*j)) (tC (.int 3)) (tVar 0)))) (tVar 0)) (tVar 1)))
   (zat rfl rfl rfl rfl (fun x c h=>by simp at h;rcases h with ⟨rfl,rfl⟩ | ⟨rfl,rfl⟩<;>rfl) rfl rfl rfl) (zcM B.range (a1 (e_op zaC (e_v 5) e_i)))
   (fun pins C s3 H3 fp=>⟨(g_n 0 nd3),.inl ⟨rfl,rfl⟩,(e_op zaC (e_op zaM (e_op zaT (e_v 2) (e_op zaM e_i (e_op zcw e_i (e_v 0)))) (e_v 0)) (e_v 1))⟩))
   (zab (zar 7 nd (zbC a0))
   (zab (zdI (zcM B.range (a1 (e_op zaC (e_op zaT (e_v 5) e_i) e_i))) (g_n 8 nd)
    (zab (zar 9 nd (e_op zaC (e_op zaT (e_v 5) (e_op zaM e_i (e_op zcw e_i (e_v 8)))) (e_v 4)))
    (zac (ziy (e_v 7) (e_ix zaw (zbC (ac (zaJ (a1 e_s)) (ac (zaJ (ac e_s (a1 (e_v 9)))) (ac (zaJ (ac e_s (a1 (e_v 9)))) (a1 (zaJ (ac e_s (a1 (e_v 9))))))))) (e_op zaC (e_op zaT (e_v 5) (e_ix zaw (zbC (ac e_i (ac e_i (a1 e_i)))) (e_v 8))) e_i))))))
   (zab (s_if (zap o_eq (e_op zaM (e_cb zcd B.len PySem.boot_len (a1 (e_v 6))) (e_cb zcd B.len PySem.boot_len (a1 (e_v 7)))) e_i) (zac (zar 7 nd (zbC (a1 (zaJ (a1 e_s)))))) zaq)
   (zac (zaj (zaJ (ac (zaJ (ac e_s (ac (e_v 6) (ac (e_v 7) (a1 (e_v 3)))))) (a1 (e_op zaM (e_cb zcd B.len PySem.boot_len (a1 (e_v 6))) (e_cb zcd B.len PySem.boot_len (a1 (e_v 7))))))))))))))),?_⟩
  refine ⟨_,rfl,t,_,rfl,SqT.of ht,rfl,_,_,rfl,_,_,rfl,rfl,?_⟩
  refine ⟨_,rfl,_,rfl,_,_,rfl,rfl,c,_,rfl,by lia,by lia,fun n n0 n1=>?_⟩
  have m1:=Int.emod_nonneg n (show (4:Int)≠0 by decide)
  have m2:=Int.emod_lt_of_pos n (show (0:Int)<4 by decide)
  have m3:=Int.emod_nonneg (n / 4) (show (4:Int)≠0 by decide)
  have m4:=Int.emod_lt_of_pos (n / 4) (show (0:Int)<4 by decide)
  refine ⟨_,rfl,_,_,rfl,rfl,pz,_,rfl,by lia,by lia,fun D hD=>zdE (by decide) (by decide) (by decide) (by decide) z0 (by lia) hD fun H1 cs s1 h1 lt lc=>?_⟩
  refine ⟨Nat.zero_le _,fun p hp=>?_⟩
  obtain ⟨H2,e,s2,u2⟩:=fresh (.lst []) hp;rw [e];clear e
  have s12:=s1.trans s2
  have fp:H p=none:=s1.free hp
  have fin:∀ (m:Addr) (o8 o9:Option V) (Hn:Hp) (ms:List V) (ag:List Sm),Same H1 Hn->Hn m=some (.lst ms)->Paired (SmAt Hn) ms ag->(∀ a∈ag,a.ok sz)->ag.length<=3->0<cs.length+ag.length ->
    tRet (tTup (zaf (tTup (zaf (tC (.str "group")) (zaf (tVar 6) (zaf (tVar 7) (zaf (tVar 3) tNil))))) (zaf (tOp (rI0 fun i j=>.int (i+j)) (tCB (fun xs H Q=>∃ p ys,xs=[.ref p]/\(SqL K H p ys\/SqT K H p ys)/\Q (.int ys.length) H) (zaf (tVar 6) tNil)) (tCB (fun xs H Q=>∃ p ys,xs=[.ref p]/\(SqL K H p ys\/SqT K H p ys)/\Q (.int ys.length) H) (zaf (tVar 7) tNil))) tNil))) { nx:=fun _ H'=>Q .non H',rt:=Q } [some (.int c),some (.int k),some (.ref t),some v,some (.int (sz:Int)),some (.int n),some (.ref D),some (.ref m),o8,o9] Hn:=by
   intro m o8 o9 Hn ms ag sn hm pm ok la pos
   refine ⟨_,rfl,_,rfl,_,rfl,by show 4<=sizeLine;exact sm,fun u hu=>?_⟩
   obtain ⟨H3,e,s3,u3⟩:=fresh (.tup [.str "group", .ref D,.ref m,v]) hu;rw [e];clear e
   have hD3:=s3 _ _ (sn _ _ h1)
   refine ⟨_,rfl,D,_,rfl,.inl (SqL.of hD3),_,rfl,m,_,rfl,.inl (SqL.of (s3 _ _ hm)),_,_,rfl,rfl,by show 2<=sizeLine;exact sm,fun r hr'=>?_⟩
   have e:((colV cs).length:Int)+(ms.length:Int)=((cs.length+ag.length:Nat) : Int):=by rw [zax,Paired.length pm];lia
   have s4:Same H3 (upd H3 r (.tup [.ref u,.int (((colV cs).length:Int)+(ms.length:Int))])):=(Same.refl H3).upd hr'
   have s14:=sn.trans (s3.trans s4)
   exact kk r u _ cs ag (s1.trans s14) (by rw [zaa];exact congrArg (fun z=>some (HO.tup [V.ref u,V.int z])) e) (fun q hq=>⟨u,D,m,ms,v,rfl,s4 _ _ u3,s4 _ _ hD3,s4 _ _ (s3 _ _ hm),Paired.mapP pm fun _ _ z=>z.same (s3.trans s4),hq.same (s1.trans s14)⟩) lt ok (by lia) la pos
  refine ⟨_,rfl,_,_,rfl,rfl,⟨by decide,by decide⟩,_,_,rfl,rfl,pz,_,rfl,by lia,by lia,zeb (n:=(n / 4 % 4).toNat) (fun i σ H'=>∃ (o8 o9:Option V) (ms:List V) (ag:List Sm),σ=[some (.int c),some (.int k),some (.ref t),some v,some (.int (sz:Int)),some (.int n),some (.ref D),some (.ref p),o8,o9]/\Same H1 H'/\H' p=some (.lst ms)/\Paired (SmAt H') ms ag/\ag.length=i/\∀ a∈ag,a.ok sz)
   ⟨none,none,[],[],rfl,s2,u2,.nil,rfl,fun a h=>nomatch h⟩ ?_ ?_⟩
  ·rintro i σ H3 hi ⟨o8,o9,ms,ag,rfl,s3,h3,pm,la,ok⟩
   have i3:i<3:=by lia
   refine ⟨_,rfl,_,rfl,_,_,rfl,rfl,.inl ⟨by decide,by decide⟩,_,_,rfl,rfl,_,_,rfl,rfl,⟨by lia,by lia⟩,_,rfl,_,_,rfl,rfl,by lia,?_⟩
   obtain ⟨j,ej,hj⟩:=modN (n / (7+5*(0+(i:Int)))) z0
   show zas 9 (V.int (n / (7+5*(0+(i:Int))) % (sz:Int))) _ H3 _
   rw [ej]
   refine ⟨_,rfl,.inl ⟨rfl,_,SqL.of h3⟩,?_⟩
   refine ⟨by show 1<=sizeLine;exact sm,fun ta hta=>?_⟩
   obtain ⟨Ha,e,sa,ua⟩:=fresh (.tup [.str "count"]) hta;rw [e];clear e
   refine ⟨_,rfl,by show 2<=sizeLine;exact sm,fun tb htb=>?_⟩
   obtain ⟨Hb,e,sb,ub⟩:=fresh (.tup [.str "sum", .int (j:Int)]) htb;rw [e];clear e
   refine ⟨_,rfl,by show 2<=sizeLine;exact sm,fun tc htc=>?_⟩
   obtain ⟨Hc,e,sc,uc⟩:=fresh (.tup [.str "least", .int (j:Int)]) htc;rw [e];clear e
   refine ⟨_,rfl,by show 2<=sizeLine;exact sm,fun te hte=>?_⟩
   obtain ⟨He,e,se,ue⟩:=fresh (.tup [.str "greatest", .int (j:Int)]) hte;rw [e];clear e
   refine ⟨by show 4<=sizeLine;exact sm,fun L hL=>?_⟩
   obtain ⟨HL,e,sL,uL⟩:=fresh (.lst [.ref ta,.ref tb,.ref tc,.ref te]) hL;rw [e];clear e
   refine ⟨_,rfl,by show 3<=sizeLine;exact sm,fun M hM=>?_⟩
   obtain ⟨HM,e,sM,uM⟩:=fresh (.lst [.int 4096,.int 16384,.int 65536]) hM;rw [e];clear e
   have toM:Same H3 HM:=sa.trans (sb.trans (sc.trans (se.trans (sL.trans sM))))
   obtain ⟨dv,edv,dv0,dv1⟩ : ∃ dv:Int,atI [V.int 4096,V.int 16384,V.int 65536] (0+(i:Int))=some (V.int dv)/\0<dv/\dv<1073741824:=by
    rcases (show i=0\/i=1\/i=2 by lia) with rfl | rfl | rfl
    ·exact ⟨4096,rfl,by decide,by decide⟩
    ·exact ⟨16384,rfl,by decide,by decide⟩
    ·exact ⟨65536,rfl,by decide,by decide⟩
   refine ⟨_,rfl,ixL uM edv ⟨_,_,rfl,rfl,⟨dv0,dv1⟩,_,_,rfl,rfl,pz,?_⟩⟩
   have q1:=Int.emod_nonneg (n / dv) (show (4:Int)≠0 by decide)
   have q2:=Int.emod_lt_of_pos (n / dv) (show (0:Int)<4 by decide)
   obtain ⟨x,g,ex,hx,og⟩ : ∃ (x:V) (g:Sm),atI [V.ref ta,V.ref tb,V.ref tc,V.ref te] (n / dv % 4)=some x/\SmAt HM x g/\g.ok sz:=by
    rcases (show n / dv % 4=0\/n / dv % 4=1\/n / dv % 4=2\/n / dv % 4=3 by lia) with e | e | e | e<;>rw [e]
    ·exact ⟨_,.count,rfl,⟨ta,rfl,sM _ _ (sL _ _ (se _ _ (sc _ _ (sb _ _ ua))))⟩,True.intro⟩
    ·exact ⟨_,.sum j,rfl,⟨tb,rfl,sM _ _ (sL _ _ (se _ _ (sc _ _ ub)))⟩,hj⟩
    ·exact ⟨_,.least j,rfl,⟨tc,rfl,sM _ _ (sL _ _ (se _ _ uc))⟩,hj⟩
    ·exact ⟨_,.greatest j,rfl,⟨te,rfl,sM _ _ (sL _ _ ue)⟩,hj⟩
   have h3M:=toM _ _ h3
   have ntp:=zbW h3M
   have wr:∀ {y:V} {g':Sm},SmAt HM y g'->SmAt (upd HM p (.lst (ms++[x]))) y g':=fun {y g'} h=>by
    cases g'<;>(obtain ⟨t,e1,e2⟩:=h;exact ⟨t,e1,zc6 ntp _ _ e2⟩)
   have lm:=Paired.length pm
   refine (ixL (sM _ _ uL) ex ⟨p,ms,x,rfl,rfl,h3M,zah (by lia),_,_,ms++[x],ag++[g],rfl,(s3.trans toM).upd hp,zaa,zak (R:=SmAt _) (wr hx) (Paired.mapP pm fun _ _ z=>wr (z.same toM)),by rw [List.length_append,la];rfl,fun a ha=>?_⟩)
   rcases List.mem_append.mp ha with y | y
   ·exact ok a y
   ·rw [List.mem_singleton.mp y];exact og
  ·rintro σ H3 ⟨o8,o9,ms,ag,rfl,s3,h3,pm,la,ok⟩
   have lm:=Paired.length pm
   refine ⟨_,rfl,D,_,rfl,.inl (SqL.of (s3 _ _ h1)),_,rfl,p,_,rfl,.inl (SqL.of h3),_,_,rfl,rfl,rfl,_,rfl,ite2 (fun e=>?_) (fun e=>?_)⟩
   ·have e:=V.int.inj (of_decide_eq_true e)
    rw [zax,lm] at e
    refine ⟨by show 1<=sizeLine;exact sm,fun u hu=>?_⟩
    obtain ⟨H4,e,s4,u4⟩:=fresh (.tup [.str "count"]) hu;rw [e];clear e
    refine ⟨by show 1<=sizeLine;exact sm,fun m hm=>?_⟩
    have s5:Same H4 (upd H4 m (.lst [.ref u])):=(Same.refl H4).upd hm
    exact fin m _ _ _ [.ref u] [.count] (s3.trans (s4.trans s5)) zaa (.cons ⟨u,rfl,s5 _ _ u4⟩ .nil) (fun a ha=>by rw [List.mem_singleton.mp ha];exact True.intro) (by decide) (by show 0<cs.length+1;lia)
   ·refine fin p _ _ H3 ms ag s3 h3 pm ok (by lia) ?_
    rcases Nat.eq_zero_or_pos (cs.length+ag.length) with z | z
    ·exact absurd (decide_eq_true (congrArg V.int (show ((colV cs).length:Int)+(ms.length:Int)=0 by rw [zax,lm];lia))) e
    ·exact z
end
section
variable {P:Program}{w:World}{K:PySem.W.Frag}{mg:Str->Option Value}{base:Heap}
def NmAt (W:Str->Nat)(H:Hp)(v:V)(z:Str) : Prop:=∃ t,v=.ref t/\H t=some (.tup [.str z,.int (W z:Nat)])
theorem NmAt.same {W:Str->Nat}{H H':Hp}{v:V}{z:Str}(s:Same H H')(h:NmAt W H v z) : NmAt W H' v z:=let ⟨t,a,b⟩:=h;⟨t,a,s _ _ b⟩
def za5 (n:Nat) : Sp:=fun vs H Q _=>∃ (c:Int) (k d:Nat) (a p:Addr) (ts:List V) (N:List Str) (W:Str->Nat) (x y u:Int),vs=[.int c,.int (k:Int),.int (d:Int),.ref a,.ref p]/\d<n/\d<=3/\(k+2)*2 ^ d<=16/\H a=some (.lst ts)/\Paired (NmAt W H) ts N/\N≠[]/\N.length<=10/\(∀ z∈N,1<=W z/\W z<=3)/\H p=some (.lst [.int x,.int y,.int u]) /\
 ∀ (r:Addr) (H':Hp) (v:V) (q:Qn),Same H H'->H' r=some (.tup [v,.int (q.w W:Nat)])->QAt H' v q->q.ok W N->q.deep<=2*d+1->2*q.most<=25*2 ^ d->1<=q.w W->q.w W<=6->Q (.ref r) H'
theorem zbX:FnScope ["_law_cell","_law_k","_law_deep","_law_tables","_law_pool_here","_law_number","_law_leaf","_law_other","_law_left","_law_right_here","_law_one","_law_word"] ["_law_cell","_law_k","_law_deep","_law_tables","_law_pool_here"] (zad zbV):=by walk_at "sc"
theorem zb0 {f:Addr}{fd:FuncData}(F:Fun K "_law_question" "_law_question" zbV f fd)(hm:mg "_law_question" = some (.ref f))(hk:PySem.W.keepIn K (.ref f)=true)(hb:Binds K fd ["_law_cell","_law_k","_law_deep","_law_tables","_law_pool_here"] [])(B:Blts mg)
  (F__law_mixed:FnP P w K mg base 1 "_law_mixed" ["_law_cell","_law_k"] zal) (F__law_condition:FnP P w K mg base 2 "_law_condition" ["_law_cell","_law_k","_law_size","_law_pool_here"] zbF)
  (F__law_fit:FnP P w K mg base 1 "_law_fit" ["_law_question_here","_law_size","_law_due"] zea) (F__law_group:FnP P w K mg base 2 "_law_group" ["_law_cell","_law_k","_law_one"] zc3) (F__law_columns:FnP P w K mg base 2 "_law_columns" ["_law_cell","_law_k","_law_one"] zch) : ∀ n,FnOk P w K mg base CX0 (n+3) f fd ["_law_cell","_law_k","_law_deep","_law_tables","_law_pool_here"] (za5 n)
 | 0=>FnOk.none fun _ _ _ _ ⟨_,_,_,_,_,_,_,_,_,_,_,_,h,_⟩=>absurd h (Nat.not_lt_zero _)
 | n + 1 => by
  have FW:FnP P w K mg base (n+3) "_law_question" ["_law_cell","_law_k","_law_deep","_law_tables","_law_pool_here"] (za5 n):=⟨f,fd,zb0 F hm hk hb B F__law_mixed F__law_condition F__law_fit F__law_group F__law_columns n,hm,hk,hb⟩
  refine F.okJ (k:=n+3) zbX (fun vs H Q E h=>?_) (fun cdv A outer s H vs Q E hr h=>?_)
  ·obtain ⟨_,_,_,_,_,_,_,_,_,_,_,rfl,_⟩:=h
   rfl
  ·obtain ⟨c,k,d,a,p,ts,N,W,x,y,u,rfl,dn,d3,kd,ha,pn,ne,l10,wp,hp,kk⟩:=h
   have nd:=zbX.nd
   refine ⟨_,(zab (zar 5 nd (e_fn F__law_mixed hr (ac (e_v 0) (a1 (e_v 1))) (by lia)))
   (zab (zar 6 nd (e_ix zaw (e_v 3) (e_op zaC (e_op zaT (e_v 5) e_i) (e_cb zcd B.len PySem.boot_len (a1 (e_v 3))))))
   (zab (s_if (JW.jt (w_or (zap o_eq (e_v 2) e_i) (zeP (zap o_eq (e_op zaC (e_v 5) e_i) e_i)))) (zac (zaj (zaJ (ac (zaJ (ac e_s (a1 (e_ix zag (e_v 6) e_i)))) (a1 (e_ix zag (e_v 6) e_i)))))) zaq)
   (zab (s_if (zap o_eq (e_op zaC (e_v 5) e_i) e_i) (zab (zar 7 nd (e_ix zaw (e_v 3) (e_op zaC (e_op zaT (e_v 5) e_i) (e_cb zcd B.len PySem.boot_len (a1 (e_v 3))))))
    (zab (zar 8 nd (zaJ (ac e_s (a1 (e_ix zag (e_v 6) e_i)))))
    (zab (zar 9 nd (zaJ (ac e_s (a1 (e_ix zag (e_v 7) e_i)))))
    (zab (s_if (zap o_eq (e_op zaC (e_op zaT (e_v 5) e_i) e_i) e_i) (zac (zar 8 nd (zaJ (ac e_s (ac (e_fn F__law_condition hr (ac (e_v 0) (ac (e_v 1) (ac (e_ix zag (e_v 6) e_i) (a1 (e_v 4))))) (by lia)) (a1 (e_v 8))))))) zaq)
    (zab (s_if (zap o_eq (e_op zaC (e_op zaT (e_v 5) e_i) e_i) e_i) (zac (zar 9 nd (zaJ (ac e_s (ac (e_ct zgO B.list PyProof.Rows.boot_list (a1 (e_ct zlR B.range PyProof.Rows.boot_range (a1 (e_ix zag (e_v 7) e_i))))) (ac (zbC a0) (a1 (zaJ (ac e_s (ac (zaJ (ac e_s (ac e_i (a1 (e_ix zaw (e_v 4) e_i))))) (a1 (e_v 9)))))))))))) zaq)
    (zac (zaj (zaJ (ac (zaJ (ac e_s (ac (e_v 8) (a1 (e_v 9))))) (a1 (e_op zaM (e_ix zag (e_v 6) e_i) (e_ix zag (e_v 7) e_i)))))))))))) zaq)
   (zab (zar 10 nd (e_fn FW hr (ac (e_v 0) (ac (e_op zaM (e_op zcw e_i (e_v 1)) e_i) (ac (e_op zgE (e_v 2) e_i) (ac (e_v 3) (a1 (e_v 4)))))) (Nat.le_refl _)))
   (zab (s_if (zap o_eq (e_op zaC (e_v 5) e_i) e_i) (zac (zaj (e_fn F__law_group hr (ac (e_v 0) (ac (e_v 1) (a1 (e_v 10)))) (by lia)))) zaq)
   (zab (s_if (zap o_eq (e_op zaC (e_v 5) e_i) e_i) (zac (zaj (e_fn F__law_columns hr (ac (e_v 0) (ac (e_v 1) (a1 (e_v 10)))) (by lia)))) zaq)
   (zab (s_if (zap o_eq (e_op zaC (e_v 5) e_i) e_i) (zac (zaj (zaJ (ac (zaJ (ac e_s (ac (e_fn F__law_condition hr (ac (e_v 0) (ac (e_v 1) (ac (e_ix zag (e_v 10) e_i) (a1 (e_v 4))))) (by lia)) (a1 (e_ix zag (e_v 10) e_i))))) (a1 (e_ix zag (e_v 10) e_i)))))) zaq)
   (zab (zar 7 nd (e_fn FW hr (ac (e_v 0) (ac (e_op zaM (e_op zcw e_i (e_v 1)) e_i) (ac (e_op zgE (e_v 2) e_i) (ac (e_v 3) (a1 (e_v 4)))))) (Nat.le_refl _)))
   (zab (zar 11 nd (e_ix zaw (zbC (ac e_s (ac e_s (ac e_s (a1 e_s))))) (e_op zgE (e_op zaC (e_v 5) e_i) e_i)))
   (zac (zaj (zaJ (ac (zaJ (ac (e_v 11) (ac (e_ix zag (e_v 10) e_i) (a1 (e_fn F__law_fit hr (ac (e_ix zag (e_v 7) e_i) (ac (e_ix zag (e_v 7) e_i) (a1 (e_ix zag (e_v 10) e_i)))) (by lia)))))) (a1 (e_ix zag (e_v 10) e_i)))))))))))))))),?_⟩
   have kle:k<=14:=by
    have:=Nat.le_mul_of_pos_right (k+2) (Nat.two_pow_pos d)
    lia
   have lt:ts.length=N.length:=Paired.length pn
   have lpos:0<N.length:=List.length_pos_iff.mpr ne
   have leaf:∀ m:Int,∃ (t:Addr) (z:Str),atI ts (m % (ts.length:Int))=some (.ref t)/\H t=some (.tup [.str z,.int (W z:Nat)])/\z∈N:=fun m=>by
    obtain ⟨j,ej,hj⟩:=modN m (z:=ts.length) (by lia)
    rw [ej]
    have e:ts[j]?=some ts[j]:=by simp [hj]
    obtain ⟨z,hz,t,e1,e2⟩:=zan pn e
    exact ⟨t,z,by rw [za1 e,e1],e2,List.mem_of_getElem? hz⟩
   refine ⟨_,rfl,_,rfl,c,_,rfl,by lia,by lia,fun n n0 n1=>?_⟩
   obtain ⟨tl,zl,el,hl,ml⟩:=leaf (n / 11)
   refine ⟨_,rfl,_,rfl,_,_,rfl,rfl,⟨by decide,by decide⟩,_,rfl,a,ts,rfl,.inl (SqL.of ha),_,_,rfl,rfl,by lia,ixL ha el ?_⟩
   have wl:=wp zl ml
   have m0:=Int.emod_nonneg n (show (9:Int)≠0 by decide)
   have m1:=Int.emod_lt_of_pos n (show (0:Int)<9 by decide)
   have two0:1<=2 ^ d:=Nat.one_le_two_pow
   have tab:∀ (H1:Hp),Same H H1->∀ (σ:St),σ[6]?=some (some (.ref tl))->tRet (tTup (zaf (tTup (zaf (tC (.str "table")) (zaf (tOp (rIxT K) (tVar 6) (tC (.int 0))) tNil))) (zaf (tOp (rIxT K) (tVar 6) (tC (.int 1))) tNil))) { nx:=fun _ H'=>Q .non H',rt:=Q } σ H1:=by
    intro H1 s1 σ hσ
    refine ⟨_,hσ,ixTc (s1 _ _ hl) rfl ⟨by show 2<=sizeLine;exact sm,fun t ht=>?_⟩⟩
    obtain ⟨H2,e,s2,u2⟩:=fresh (.tup [.str "table", .str zl]) ht;rw [e];clear e
    refine ⟨_,hσ,ixTc (s2 _ _ (s1 _ _ hl)) rfl ⟨by show 2<=sizeLine;exact sm,fun r hr'=>?_⟩⟩
    have s3:Same H2 (upd H2 r (.tup [.ref t,.int (W zl:Nat)])):=(Same.refl H2).upd hr'
    exact kk r _ _ (.table zl) (s1.trans (s2.trans s3)) zaa ⟨t,rfl,s3 _ _ u2⟩ ml (Nat.zero_le _) (by show 2*5<=25*2 ^ d;lia) wl.1 (by show W zl<=6;lia)
   refine ⟨_,rfl,rfl,_,rfl,ite2 (fun _=>tab H (Same.refl H) _ rfl) (fun e0=>?_)⟩
   have d0:d≠0:=fun z=>e0 (by subst z;rfl)
   obtain ⟨e,rfl⟩ : ∃ e,d=e+1:=⟨d-1,by lia⟩
   refine ⟨_,rfl,_,_,rfl,rfl,pz,rfl,_,rfl,ite2 (fun _=>tab H (Same.refl H) _ rfl) (fun e1=>?_)⟩
   have two1:2 ^ (e+1)=2 ^ e*2:=Nat.pow_succ ..
   have two2:1<=2 ^ e:=Nat.one_le_two_pow
   refine ⟨_,rfl,_,_,rfl,rfl,pz,rfl,_,rfl,ite2 (fun _=>?_) (fun e2=>?_)⟩
   ·obtain ⟨tr,zr,er,hzr,mr⟩:=leaf (n / 77)
    have wr:=wp zr mr
    refine ⟨_,rfl,_,rfl,_,_,rfl,rfl,⟨by decide,by decide⟩,_,rfl,a,ts,rfl,.inl (SqL.of ha),_,_,rfl,rfl,by lia,ixL ha er ?_⟩
    refine ⟨_,rfl,ixTc hl rfl ⟨by show 2<=sizeLine;exact sm,fun t1 ht1=>?_⟩⟩
    obtain ⟨H1,e,s1,u1⟩:=fresh (.tup [.str "table", .str zl]) ht1;rw [e];clear e
    refine ⟨_,rfl,ixTc (s1 _ _ hzr) rfl ⟨by show 2<=sizeLine;exact sm,fun t2 ht2=>?_⟩⟩
    obtain ⟨H2,e,s2,u2⟩:=fresh (.tup [.str "table", .str zr]) ht2;rw [e];clear e
    have s02:=s1.trans s2
    have ql:QAt H2 (.ref t1) (.table zl):=⟨t1,rfl,s2 _ _ u1⟩
    have qr:QAt H2 (.ref t2) (.table zr):=⟨t2,rfl,u2⟩
    have fin:∀ (vl vr:V) (A B:Qn) (Hn:Hp),Same H Hn->QAt Hn vl A->QAt Hn vr B->A.ok W N->B.ok W N->A.w W=W zl->B.w W=W zr->A.most<=5->B.most<=5->A.deep<=2->B.deep<=2 ->
      tRet (tTup (zaf (tTup (zaf (tC (.str "join")) (zaf (tVar 8) (zaf (tVar 9) tNil)))) (zaf (tOp (rI0 fun i j=>.int (i+j)) (tOp (rIxT K) (tVar 6) (tC (.int 1))) (tOp (rIxT K) (tVar 7) (tC (.int 1)))) tNil))) { nx:=fun _ H'=>Q .non H',rt:=Q } [some (.int c),some (.int (k:Int)),some (.int ((e+1:Nat) : Int)),some (.ref a),some (.ref p),some (.int n),some (.ref tl),some (.ref tr),some vl,some vr,none,none] Hn:=by
     intro vl vr A B Hn sn hA hB oA oB wA wB mA mB dA dB
     refine ⟨_,rfl,_,rfl,by show 3<=sizeLine;exact sm,fun t ht=>?_⟩
     obtain ⟨H3,e,s3,u3⟩:=fresh (.tup [.str "join", vl,vr]) ht;rw [e];clear e
     refine ⟨_,rfl,ixTc (s3 _ _ (sn _ _ hl)) rfl ⟨_,rfl,ixTc (s3 _ _ (sn _ _ hzr)) rfl ⟨_,_,rfl,rfl,by show 2<=sizeLine;exact sm,fun r hr'=>?_⟩⟩⟩
     have ew:((W zl:Nat) : Int)+((W zr:Nat) : Int)=((A.w W+B.w W:Nat) : Int):=by rw [wA,wB];lia
     have s4:Same H3 (upd H3 r (.tup [.ref t,.int (((W zl:Nat) : Int)+((W zr:Nat) : Int))])):=(Same.refl H3).upd hr'
     have mm:A.most*B.most<=25:=Nat.mul_le_mul mA mB
     refine kk r _ (.ref t) (.two .join A B) (sn.trans (s3.trans s4)) (by rw [zaa];exact congrArg (fun z=>some (HO.tup [V.ref t,V.int z])) ew) ⟨t,vl,vr,rfl,s4 _ _ u3,hA.same (s3.trans s4),hB.same (s3.trans s4)⟩ ⟨oA,oB,by lia,by lia,by lia,by lia⟩ ?_ ?_ ?_ ?_
     ·show max A.deep B.deep+1<=2*(e+1)+1;lia
     ·show 2*(A.most*B.most)<=25*2 ^ (e+1);lia
     ·show 1<=A.w W+B.w W;lia
     ·show A.w W+B.w W<=6;lia
    have snd:∀ (vl:V) (A:Qn) (Hn:Hp),Same H2 Hn->QAt Hn vl A->A.ok W N->A.w W=W zl->A.most<=5->A.deep<=2->∀ (G:TS),(∀ (vr:V) (B:Qn) (H':Hp),Same H H'->QAt H' vl A->QAt H' vr B->B.ok W N->B.w W=W zr->B.most<=5->B.deep<=2->G { nx:=fun _ H'=>Q .non H',rt:=Q } [some (.int c),some (.int (k:Int)),some (.int ((e+1:Nat) : Int)),some (.ref a),some (.ref p),some (.int n),some (.ref tl),some (.ref tr),some vl,some vr,none,none] H') ->
      tSeq (tIfS (zb3 (tOp rEq (tOp (rI (fun _ j=>0<j) fun i j=>.int (i % j)) (tOp (rI CDiv fun i j=>.int (i / j)) (tVar 5) (tC (.int 21))) (tC (.int 3))) (tC (.int 0)))) (tAsg (tTup (zaf (tC (.str "group")) (zaf (tCB (fun xs H Q=>∃ (r:Addr) (n:Nat),xs=[.ref r]/\H r=some (.rng 0 n)/\n<=1000/\∀ l,H l=none->Q (.ref l) (upd H l (.lst (zgt n)))) (zaf (tCB (fun xs H Q=>∃ n:Nat,xs=[.int (n:Int)]/\∀ r,H r=none->Q (.ref r) (upd H r (.rng 0 n))) (zaf (tOp (rIxT K) (tVar 7) (tC (.int 1))) tNil)) tNil)) (zaf (tLst tNil) (zaf (tTup (zaf (tC (.str "pick")) (zaf (tTup (zaf (tC (.str "is")) (zaf (tC (.int 0)) (zaf (tOp (rIxL K) (tVar 4) (tC (.int 0))) tNil)))) (zaf (tVar 9) tNil)))) tNil))))) (zas 9)) zgw) G { nx:=fun _ H'=>Q .non H',rt:=Q } [some (.int c),some (.int (k:Int)),some (.int ((e+1:Nat) : Int)),some (.ref a),some (.ref p),some (.int n),some (.ref tl),some (.ref tr),some vl,some (.ref t2),none,none] Hn:=by
     intro vl A Hn sn hA oA wA mA dA G g
     refine ⟨_,rfl,_,_,rfl,rfl,⟨by decide,by decide⟩,_,_,rfl,rfl,pz,rfl,_,rfl,ite2 (fun _=>?_) (fun _=>?_)⟩
     ·have s0n:=s02.trans sn
      refine ⟨_,rfl,ixTc (s0n _ _ hzr) rfl ⟨W zr,rfl,fun rg hrg=>?_⟩⟩
      have s3:Same Hn (upd Hn rg (.rng 0 (W zr:Nat))):=(Same.refl Hn).upd hrg
      have u3:upd Hn rg (.rng 0 (W zr:Nat)) rg=some (.rng 0 (W zr:Nat)):=zaa
      show ∃ (r:Addr) (n:Nat),[V.ref rg]=[.ref r]/\upd Hn rg (.rng 0 (W zr:Nat)) r=some (.rng 0 n)/\_
      generalize upd Hn rg (.rng 0 (W zr:Nat))=H3 at s3 u3 ⊢
      refine ⟨rg,W zr,rfl,u3,by lia,fun L hL=>?_⟩
      obtain ⟨H4,e,s4,u4⟩:=fresh (.lst (zgt (W zr))) hL;rw [e];clear e;replace u4:H4 L=some (.lst (colV (List.range (W zr)))):=u4
      refine ⟨Nat.zero_le _,fun M hM=>?_⟩
      obtain ⟨H5,e,s5,u5⟩:=fresh (.lst []) hM;rw [e];clear e
      have s05:Same H H5:=s0n.trans (s3.trans (s4.trans s5))
      refine ⟨_,rfl,ixLc (s05 _ _ hp) rfl ⟨by show 3<=sizeLine;exact sm,fun ti hti=>?_⟩⟩
      obtain ⟨H6,e,s6,u6⟩:=fresh (.tup [.str "is", .int 0,.int x]) hti;rw [e];clear e
      refine ⟨_,rfl,by show 3<=sizeLine;exact sm,fun tp htp=>?_⟩
      obtain ⟨H7,e,s7,u7⟩:=fresh (.tup [.str "pick", .ref ti,.ref t2]) htp;rw [e];clear e
      refine ⟨by show 4<=sizeLine;exact sm,fun tg htg=>?_⟩
      obtain ⟨H8,e,s8,u8⟩:=fresh (.tup [.str "group", .ref L,.ref M,.ref tp]) htg;rw [e];clear e
      have s58:=s6.trans (s7.trans s8)
      have sn8:Same Hn H8:=s3.trans (s4.trans (s5.trans s58))
      refine g (.ref tg) (.group (List.range (W zr)) [] (.pick (.isv 0 x) (.table zr))) H8 (s0n.trans sn8) (hA.same sn8) ⟨tg,L,M,[],.ref tp,rfl,u8,(s5.trans s58) _ _ u4,s58 _ _ u5,.nil,tp,.ref ti,.ref t2,rfl,s8 _ _ u7,⟨ti,rfl,(s7.trans s8) _ _ u6⟩,(qr.same sn).same sn8⟩ ?_ ?_ (Nat.le_refl _) (Nat.le_refl _)
      ·have lr:(List.range (W zr)).length=W zr:=List.length_range
       exact ⟨fun i hi=>List.mem_range.mp hi,(fun a h=>nomatch h),by lia,by decide,by show 0<(List.range (W zr)).length+0;lia,by show 5<=60;decide,by show 0<W zr;lia,by show 0<=2;decide,by show 5<=60;decide,mr⟩
      ·show (List.range (W zr)).length+0=W zr
       rw [List.length_range];rfl
     ·exact g (.ref t2) (.table zr) Hn (s02.trans sn) hA (qr.same sn) mr rfl (Nat.le_refl _) (Nat.zero_le _)
    refine ⟨_,rfl,_,_,rfl,rfl,⟨by decide,by decide⟩,_,_,rfl,rfl,pz,rfl,_,rfl,ite2 (fun _=>?_) (fun _=>?_)⟩
    ·refine ⟨_,rfl,_,rfl,_,rfl,ixTc (s02 _ _ hl) rfl ⟨_,rfl,c,_,W zl,p,x,y,u,rfl,by lia,by lia,by lia,s02 _ _ hp,fun t3 H3 cd s3 h3 o3 d3=>?_⟩⟩
     refine ⟨_,rfl,by show 3<=sizeLine;exact sm,fun t4 ht4=>?_⟩
     obtain ⟨H4,e,s4,u4⟩:=fresh (.tup [.str "pick", .ref t3,.ref t1]) ht4;rw [e];clear e
     refine snd (.ref t4) (.pick cd (.table zl)) H4 (s3.trans s4) ⟨t4,_,_,rfl,u4,h3.same s4,ql.same (s3.trans s4)⟩ ⟨o3,d3,by show 5<=60;decide,ml⟩ rfl (Nat.le_refl _) (by show 0+1<=2;decide) (tRet (tTup (zaf (tTup (zaf (tC (.str "join")) (zaf (tVar 8) (zaf (tVar 9) tNil)))) (zaf (tOp (rI0 fun i j=>.int (i+j)) (tOp (rIxT K) (tVar 6) (tC (.int 1))) (tOp (rIxT K) (tVar 7) (tC (.int 1)))) tNil)))) fun vr B H' s' hA hB oB wB mB dB=>?_
     exact fin (.ref t4) vr (.pick cd (.table zl)) B H' s' hA hB ⟨o3,d3,by show 5<=60;decide,ml⟩ oB rfl wB (Nat.le_refl _) mB (by show 0+1<=2;decide) dB
    ·refine snd (.ref t1) (.table zl) H2 (Same.refl H2) ql ml rfl (Nat.le_refl _) (Nat.zero_le _) (tRet (tTup (zaf (tTup (zaf (tC (.str "join")) (zaf (tVar 8) (zaf (tVar 9) tNil)))) (zaf (tOp (rI0 fun i j=>.int (i+j)) (tOp (rIxT K) (tVar 6) (tC (.int 1))) (tOp (rIxT K) (tVar 7) (tC (.int 1)))) tNil)))) fun vr B H' s' hA hB oB wB mB dB=>?_
     exact fin (.ref t1) vr (.table zl) B H' s' hA hB ml oB rfl wB (Nat.le_refl _) mB (Nat.zero_le _) dB
   have kd1:(2*k+1+2)*2 ^ e<=16:=by
    refine Nat.le_trans (Nat.mul_le_mul_right (2 ^ e) (show 2*k+1+2<=(k+2)*2 by lia)) ?_
    rw [Nat.mul_assoc,Nat.mul_comm 2 (2 ^ e),<- two1];exact kd
   have kd2:(2*k+2+2)*2 ^ e<=16:=by
    refine Nat.le_trans (Nat.mul_le_mul_right (2 ^ e) (show 2*k+2+2<=(k+2)*2 by lia)) ?_
    rw [Nat.mul_assoc,Nat.mul_comm 2 (2 ^ e),<- two1];exact kd
   have e2e:2 ^ e<=2 ^ 2:=Nat.pow_le_pow_right (by decide) (by lia)
   refine ⟨_,rfl,_,rfl,_,_,rfl,rfl,.inl ⟨by decide,by decide⟩,_,_,rfl,rfl,_,rfl,_,_,rfl,rfl,_,rfl,_,rfl,c,2*k+1,e,a,p,ts,N,W,x,y,u,?_,by lia,by lia,kd1,ha,pn,ne,l10,wp,hp,fun r1 H1 v1 q1 s1 h1 hq1 ok1 dp1 mo1 w1 w1'=>?_⟩
   ·show [V.int c,V.int (2*(k:Int)+1),V.int (((e+1:Nat) : Int)-1),V.ref a,V.ref p]=_
    rw [show (2*(k:Int)+1)=((2*k+1:Nat) : Int) by lia,show (((e+1:Nat) : Int)-1)=(e:Int) by lia]
   have m60:q1.most<=60:=by lia
   refine ⟨_,rfl,_,_,rfl,rfl,pz,rfl,_,rfl,ite2 (fun _=>?_) (fun e3=>?_)⟩
   ·refine ⟨_,rfl,_,rfl,_,rfl,c,_,r1,v1,q1.w W,rfl,by lia,by lia,h1,by lia,fun r t H2 cs ag s2 h2 hq2 lt oka lc la pos=>?_⟩
    exact kk r H2 (.ref t) (.group cs ag q1) (s1.trans s2) h2 (hq2 q1 hq1) ⟨lt,oka,by lia,by lia,pos,m60,ok1⟩ (by show q1.deep+1<=2*(e+1)+1;lia) (by show 2*q1.most<=25*2 ^ (e+1);lia) pos (by show cs.length+ag.length<=6;lia)
   refine ⟨_,rfl,_,_,rfl,rfl,pz,rfl,_,rfl,ite2 (fun _=>?_) (fun e4=>?_)⟩
   ·refine ⟨_,rfl,_,rfl,_,rfl,c,_,r1,v1,q1.w W,rfl,by lia,by lia,h1,by lia,fun r t H2 cs s2 h2 hq2 lt lc la=>?_⟩
    exact kk r H2 (.ref t) (.columns cs q1) (s1.trans s2) h2 (hq2 q1 hq1) ⟨lt,fun z=>by rw [z] at lc;simp at lc,by lia,m60,ok1⟩ (by show q1.deep+1<=2*(e+1)+1;lia) (by show 2*q1.most<=25*2 ^ (e+1);lia) lc (by show cs.length<=6;lia)
   refine ⟨_,rfl,_,_,rfl,rfl,pz,rfl,_,rfl,ite2 (fun _=>?_) (fun e5=>?_)⟩
   ·refine ⟨_,rfl,_,rfl,_,rfl,ixTc h1 rfl ⟨_,rfl,c,_,q1.w W,p,x,y,u,rfl,by lia,by lia,by lia,s1 _ _ hp,fun t3 H3 cd s3 h3 o3 d3=>?_⟩⟩
    refine ⟨_,rfl,ixTc (s3 _ _ h1) rfl ⟨by show 3<=sizeLine;exact sm,fun t4 ht4=>?_⟩⟩
    obtain ⟨H4,e,s4,u4⟩:=fresh (.tup [.str "pick", .ref t3,v1]) ht4;rw [e];clear e
    refine ⟨_,rfl,ixTc (s4 _ _ (s3 _ _ h1)) rfl ⟨by show 2<=sizeLine;exact sm,fun r hr'=>?_⟩⟩
    have s5:Same H4 (upd H4 r (.tup [.ref t4,.int (q1.w W:Nat)])):=(Same.refl H4).upd hr'
    exact kk r _ (.ref t4) (.pick cd q1) (s1.trans (s3.trans (s4.trans s5))) zaa ⟨t4,_,_,rfl,s5 _ _ u4,h3.same (s4.trans s5),hq1.same (s3.trans (s4.trans s5))⟩ ⟨o3,d3,m60,ok1⟩ (by show q1.deep+1<=2*(e+1)+1;lia) (by show 2*q1.most<=25*2 ^ (e+1);lia) w1 w1'
   refine ⟨_,rfl,_,rfl,_,_,rfl,rfl,.inl ⟨by decide,by decide⟩,_,_,rfl,rfl,_,rfl,_,_,rfl,rfl,_,rfl,_,rfl,c,2*k+2,e,a,p,ts,N,W,x,y,u,?_,by lia,by lia,kd2,s1 _ _ ha,Paired.mapP pn fun _ _ z=>NmAt.same s1 z,ne,l10,wp,s1 _ _ hp,fun r2 H2 v2 q2 s2 h2 hq2 ok2 dp2 mo2 w2 w2'=>?_⟩
   ·show [V.int c,V.int (2*(k:Int)+2),V.int (((e+1:Nat) : Int)-1),V.ref a,V.ref p]=_
    rw [show (2*(k:Int)+2)=((2*k+2:Nat) : Int) by lia,show (((e+1:Nat) : Int)-1)=(e:Int) by lia]
   have m60':q2.most<=60:=by lia
   have h12:=s2 _ _ h1
   refine ⟨by show 4<=sizeLine;exact sm,fun L hL=>?_⟩
   obtain ⟨H3,e,s3,u3⟩:=fresh (.lst [.str "union", .str "common", .str "less", .str "less"]) hL;rw [e];clear e
   have n9:5<=n % 9:=by
    have f0 : ¬ (n % 9=0):=fun z=>e1 (decide_eq_true (congrArg V.int z))
    have f1 : ¬ (n % 9=1):=fun z=>e2 (decide_eq_true (congrArg V.int z))
    have f2 : ¬ (n % 9=2):=fun z=>e3 (decide_eq_true (congrArg V.int z))
    have f3 : ¬ (n % 9=3):=fun z=>e4 (decide_eq_true (congrArg V.int z))
    have f4 : ¬ (n % 9=4):=fun z=>e5 (decide_eq_true (congrArg V.int z))
    lia
   obtain ⟨op,eop,nj⟩ : ∃ op:Op2,atI [V.str "union", V.str "common", V.str "less", V.str "less"] (n % 9-5)=some (.str op.nm)/\op≠.join:=by
    rcases (show n % 9=5\/n % 9=6\/n % 9=7\/n % 9=8 by lia) with z | z | z | z<;>rw [z]
    ·exact ⟨.union,rfl,by intro z;cases z⟩
    ·exact ⟨.common,rfl,by intro z;cases z⟩
    ·exact ⟨.less,rfl,by intro z;cases z⟩
    ·exact ⟨.less,rfl,by intro z;cases z⟩
   refine ⟨_,rfl,_,_,rfl,rfl,pz,_,_,rfl,rfl,ixL u3 eop ?_⟩
   have h13:=s3 _ _ h12
   have h23:=s3 _ _ h2
   have LAST:∀ (vr:V) (B:Qn) (Hn:Hp),Same H3 Hn->QAt Hn vr B->B.ok W N->B.w W=q1.w W->B.most<=q2.most->B.deep<=q2.deep+1->3<=sizeLine/\∀ t,Hn t=none->tOp (rIxT K) (tVar 10) (tC (.int 1)) [some (.int c),some (.int (k:Int)),some (.int ((e+1:Nat) : Int)),some (.ref a),some (.ref p),some (.int n),some (.ref tl),some (.ref r2),none,none,some (.ref r1),some (.str op.nm)] (upd Hn t (.tup [.str op.nm,v1,vr])) (fun x H2=>2<=sizeLine/\∀ r,H2 r=none->Q (.ref r) (upd H2 r (.tup [.ref t,x]))):=by
    intro vr B Hn sn hB oB wB mB dB
    refine ⟨sm,fun t ht=>?_⟩
    obtain ⟨H4,e,s4,u4⟩:=fresh (.tup [.str op.nm,v1,vr]) ht;rw [e];clear e
    have s34:=sn.trans s4
    refine ⟨_,rfl,ixTc (s34 _ _ h13) rfl ⟨sm,fun r hr'=>?_⟩⟩
    have s5:Same H4 (upd H4 r (.tup [.ref t,.int (q1.w W:Nat)])):=(Same.refl H4).upd hr'
    have ek:(Qn.two op q1 B).w W=q1.w W:=by cases op<;>first | exact absurd rfl nj | rfl
    have em:(Qn.two op q1 B).most<=q1.most+q2.most:=by
     cases op with
     | join=>exact absurd rfl nj
     | union=>show q1.most+B.most<=_;lia
     | common=>show q1.most<=_;lia
     | less=>show q1.most<=_;lia
    refine kk r _ (.ref t) (.two op q1 B) (s1.trans (s2.trans (s3.trans (s34.trans s5)))) (by rw [zaa,ek]) ⟨t,v1,vr,rfl,s5 _ _ u4,hq1.same (s2.trans (s3.trans (s34.trans s5))),hB.same (s4.trans s5)⟩ ⟨ok1,oB,by lia,by lia,?_⟩ ?_ ?_ ?_ ?_
    ·cases op with
     | join=>exact absurd rfl nj
     | union=>exact ⟨wB.symm,m60,by lia⟩
     | common=>exact ⟨wB.symm,m60,by lia⟩
     | less=>exact ⟨wB.symm,m60,by lia⟩
    ·show max q1.deep B.deep+1<=2*(e+1)+1;lia
    ·lia
    ·rw [ek];exact w1
    ·rw [ek];exact w1'
   refine ⟨_,rfl,_,rfl,ixTc h13 rfl ⟨_,rfl,ixTc h23 rfl ⟨_,rfl,ixTc h23 rfl ⟨_,rfl,ixTc h13 rfl ⟨v2,q2.w W,q1.w W,rfl,by lia,by lia,fun ew=>?_,fun t H' cs s' hq lt lc=>?_⟩⟩⟩⟩⟩
   ·exact LAST v2 q2 H3 (Same.refl H3) (hq2.same s3) ok2 ew (Nat.le_refl _) (Nat.le_succ _)
   ·refine LAST (.ref t) (.columns cs q2) H' s' (hq q2 (hq2.same s3)) ⟨lt,fun z=>?_,by lia,m60',ok2⟩ lc (Nat.le_refl _) (Nat.le_refl _)
    rw [z] at lc
    simp at lc
    lia
end
end Prf
namespace L2
open PySem PySem.Spec PyProof.Rows
theorem zgs {cl:List (Str×Addr)}{x0 x:Str}{a c:Addr}(h:((x0,a)::cl).lookup x=some c) : (x=x0/\c=a)\/(x≠x0/\cl.lookup x=some c):=by
 rw [List.lookup_cons] at h
 cases hb:x == x0 with
 | true=>rw [hb] at h;cases h;exact .inl ⟨beq_iff_eq.mp hb,rfl⟩
 | false=>rw [hb] at h;exact .inr ⟨(fun e=>by rw [e,beq_self_eq_true] at hb;cases hb),h⟩
theorem zi3 {cl:List (Str×Addr)}{x0:Str}{a:Addr} : ((x0,a)::cl).lookup x0=some a:=by rw [List.lookup_cons,beq_self_eq_true]
theorem zhH {cl:List (Str×Addr)}{x0 x:Str}{a:Addr}(ne:x≠x0) : ((x0,a)::cl).lookup x=cl.lookup x:=by
 rw [List.lookup_cons]
 cases hb:x == x0 with
 | true=>exact absurd (beq_iff_eq.mp hb) ne
 | false=>rfl
abbrev zaH (X:Cx)(pins:List (Addr×Obj))(scope:Scope)(cl:List (Str×Addr))(x0:Str)(C:Addr)(Nc:List Str)(s3:Shared)(H3:Hp)(fp:List Addr) : Cx :=
 { X with N:=Nc,s₀:=s3,H₀:=H3,env:=compEnvC scope ((x0,C+1)::cl) C X.env,outer:=X.stack,ex:=fp,fn:=fun x=>x == x0,pn:=X.pn++pins,xe:=NoX }
structure CompScopeC (X:Cx) (scope:Scope) (cl:List (Str×Addr)) (x0:Str) (Nc:List Str) (js:List (Option Nat)) : Prop where
 clos:closureFor scope X.env=pure cl
 hcc:∀ n acc,cellsFrom n scope.names acc=(x0,n)::acc
 hpc:∀ h,pushCells h scope.names=h.push { cls:=.type "cell", data:=.cell none }
 kind:scope.kind=.function
 nms:∀ y∈scope.names,y.2=.local->scope.names.lookup y.1=some .local
 sub:∀ x c,cl.lookup x=some c->X.env.cells.lookup x=some c
 has:∀ x,((relabel scope X.env).names.lookup x=some .cell\/(relabel scope X.env).names.lookup x=some .free)->x=x0\/∃ c,cl.lookup x=some c
 len:js.length=Nc.length
 cap:∀ (i:Nat) (x:Str) (j:Nat),Nc[i]?=some x->js[i]?=some (some j)->X.N[j]?=some x/\(X.env.kindOf x=some .cell\/X.env.kindOf x=some .free)/\((relabel scope X.env).names.lookup x=some .cell\/(relabel scope X.env).names.lookup x=some .free)/\x≠x0
section
variable {X:Cx}{pins:List (Addr×Obj)}{σ:St}{H:Hp}{s:Shared}{scope:Scope}{cl:List (Str×Addr)}{x0:Str}{Nc:List Str}{js:List (Option Nat)}{C:Addr}{fp:List Addr}{h1:Heap}{tk:Nat}{m:Str->Option Value}
theorem zi1 (S:CompScopeC X scope cl x0 Nc js)(I:Inv X pins σ H s)(hf:∀ b∈fp,FpOk X pins H b)(hfo:∀ b∈fp,∃ o,s.heap.get? b=some o)(hC:s.heap.objs.size<=C)(hC1:h1.IsCell (C+1) none)(hn:h1.Ns C m)(k:∀ b o,s.heap.get? b=some o->h1.get? b=some o) :
  Inv (zaH X pins scope cl x0 C Nc s H fp) [] (capt js σ) H { s with heap:=h1,toks:=tk }:=by
 have lt:∀ {b:Addr} {o:Obj},s.heap.get? b=some o->b≠C:=fun e=>Nat.ne_of_lt (Nat.lt_of_lt_of_le (Heap.lt_size e) hC)
 have lt1:∀ {b:Addr} {o:Obj},s.heap.get? b=some o->b≠C+1:=fun e=>Nat.ne_of_lt (Nat.lt_succ_of_lt (Nat.lt_of_lt_of_le (Heap.lt_size e) hC))
 have hCn:H C=none:=I.hok.fresh hC
 have hC1n:H (C+1)=none:=I.hok.fresh (Nat.le_succ_of_le hC)
 have old:∀ x c,cl.lookup x=some c->∃ o,s.heap.get? c=some o:=fun x c e=>by
  obtain ⟨v,o,ho,_⟩:=I.cell x c (S.sub x c e)
  exact ⟨o,ho⟩
 have inj:∀ x y c,((x0,C+1)::cl).lookup x=some c->((x0,C+1)::cl).lookup y=some c->x=y:=fun x y c e1 e2=>by
  rcases zgs e1 with ⟨a1,a2⟩ | ⟨_,a2⟩<;>rcases zgs e2 with ⟨b1,b2⟩ | ⟨_,b2⟩
  ·rw [a1,b1]
  ·obtain ⟨o,ho⟩:=old y c b2
   exact absurd a2 (lt1 ho)
  ·obtain ⟨o,ho⟩:=old x c a2
   exact absurd b2 (lt1 ho)
  ·exact I.ok.inj x y c (S.sub x c a2) (S.sub y c b2)
 have has:∀ x,((relabel scope X.env).names.lookup x=some .cell\/(relabel scope X.env).names.lookup x=some .free)->∃ c,((x0,C+1)::cl).lookup x=some c:=fun x hx=>by
  by_cases e:x=x0
  ·subst e;exact ⟨_,zi3⟩
  ·rcases S.has x hx with z | ⟨c,z⟩
   ·exact absurd z e
   ·exact ⟨c,by rw [zhH e];exact z⟩
 have cab:∀ x c,(x == x0)=true->((x0,C+1)::cl).lookup x=some c->s.heap.objs.size<=c:=fun x c z e=>by
  rw [beq_iff_eq.mp z,zi3] at e
  cases e
  exact Nat.le_succ_of_le hC
 refine ⟨⟨I.ok.mod,S.kind,I.ok.glob,I.ok.blt,hC,inj,fun x hx=>has x hx,cab,(fun z=>I.ok.hd z),I.ok.frames,.inl rfl,fun b hb=>?_,I.bs,
  Nat.le_trans I.ok.bsz I.sz,fun b o e hb=>?_,fun b hb hs=>?_,I.stack,I.stkFree⟩,rfl,I.bare,Un.kept k,⟨m,hn,fun i x v e1 e2 e3=>?_⟩,fun x c e=>?_,hCn,fun x c e=>?_,fun p hp=>?_,I.hok.kept k,?_⟩
 ·obtain ⟨o,ho⟩:=hfo b hb
  refine ⟨lt ho,fun x c e=>?_⟩
  rcases zgs e with ⟨_,a2⟩ | ⟨_,a2⟩
  ·rw [a2];exact (lt1 ho).symm
  ·exact (hf b hb).2.2.2.2.1 x c (S.sub x c a2)
 ·rcases (hf b hb).2.2.2.1 with z | z
  ·exact I.ok.noex b o e z
  ·exact absurd (Nat.lt_of_lt_of_le (Heap.lt_size e) (Nat.le_trans I.ok.bsz z)) (Nat.lt_irrefl _)
 ·rcases List.mem_cons.mp (I.stkSub b hs) with z | z
  ·exact (hf b hb).2.1 z
  ·exact (hf b hb).2.2.1 z
 ·unfold capt at e2
  rw [List.getElem?_map] at e2
  cases ej:js[i]? with
  | none=>rw [ej] at e2;cases e2
  | some oj =>
   rw [ej] at e2
   cases oj with
   | none=>cases e2
   | some j =>
    have e2':(σ[j]?).join=some v:=Option.some.inj e2
    obtain ⟨c1,c2,c3,c4⟩:=S.cap i x j e1 ej
    have e4:σ[j]?=some (some v):=by
     cases q:σ[j]? with
     | none=>rw [q] at e2';cases e2'
     | some o=>rw [q] at e2';cases o with
      | none=>cases e2'
      | some z=>cases e2';rfl
    obtain ⟨mo,hmo,hl⟩:=I.loc
    have vis:Vis X.env.scope x:=by rcases c2 with z | z;exact .inr (.inl z);exact .inr (.inr z)
    obtain ⟨u,r,l⟩:=hl j x v c1 e4 vis
    refine ⟨u,r,.inr ⟨c3,?_⟩⟩
    rcases l with ⟨z,_⟩ | ⟨_,c,hc,hcell⟩
    ·rcases c2 with y | y<;>rw [z] at y<;>cases y
    ·obtain ⟨c',hc'⟩:=(S.has x c3).resolve_left c4
     have:=S.sub x c' hc'
     rw [hc] at this;cases this
     obtain ⟨o,ho,hd⟩:=hcell
     exact ⟨c,(zhH c4).trans hc',o,k c o ho,hd⟩
 ·rcases zgs e with ⟨_,a2⟩ | ⟨_,a2⟩
  ·rw [a2];exact ⟨none,hC1⟩
  ·obtain ⟨v,o,ho,hd⟩:=I.cell x c (S.sub x c a2)
   exact ⟨v,o,k c o ho,hd⟩
 ·rcases zgs e with ⟨_,a2⟩ | ⟨_,a2⟩
  ·rw [a2];exact hC1n
  ·exact I.freeC x c (S.sub x c a2)
 ·have hp':p∈X.pn++pins:=by simpa using hp
  obtain ⟨e,n,ne,nf,d⟩:=I.pin p hp'
  refine ⟨k _ _ e,n,lt e,fun z=>?_,d⟩
  rcases List.mem_cons.mp (I.stkSub p.1 z) with y | y
  ·exact ne y
  ·exact nf y
 ·show (capt js σ).length=Nc.length
  unfold capt
  rw [List.length_map]
  exact S.len
theorem zjj {elt target iter:Expr}{ifs:List Expr}{pos:Pos}{g:TG}{tt:TT}{te:TE}{Q:VK}{J:It}{it D:Addr}{tn:Nat->Heap->Prop}{R:Result->Shared->Prop}{s4:Shared}{σc:St}{Hc:Hp}
  (hc:X.calm=true) (T:Turn X.prog X.w X.K target J fp it tn) (hf:∀ b∈fp,FpOk X pins H b)
  (hg:PG (zaH X pins scope cl x0 C Nc s H fp) target g) (ht:PIf (zaH X pins scope cl x0 C Nc s H fp) ifs tt) (he:PE (zaH X pins scope cl x0 C Nc s H fp) elt te)
  (I:Inv (zaH X pins scope cl x0 C Nc s H fp) [] σc Hc s4) (st:tn 0 s4.heap) (fr:∀ b∈fp,Hc b=none) (hw:zcD J g tt te D Q σc Hc)
  (h:∀ s' σ' H',Inv (zaH X pins scope cl x0 C Nc s H fp) [] σ' H' s'->(∀ b∈fp,H' b=none)->Q (.ref D) H'->R (.ok .next) s') :
  codeAny (model X.prog X.w) X.A (.compLoop (.ListComp elt [⟨target,iter,ifs,0⟩] scope pos) 0 (.ref it) (.ref D) (compEnvC scope ((x0,C+1)::cl) C X.env)) R s4:=by
 obtain ⟨W,⟨m0,w0⟩,turn⟩:=hw
 have ok:=I.ok
 have stat:∀ {H':Hp},(∀ b∈fp,H' b=none)->∀ b∈fp,FpOk (zaH X pins scope cl x0 C Nc s H fp) [] H' b:=fun hn b hb =>
  ⟨hn b hb,(ok.exf b hb).1,ok.exfs b hb,.inl hb,(ok.exf b hb).2,fun p hp=>(hf b hb).2.2.2.2.2 p (by simpa using hp)⟩
 refine zeW (fun n s'=>∃ i σ' H',Inv (zaH X pins scope cl x0 C Nc s H fp) [] σ' H' s'/\tn i s'.heap/\(∀ b∈fp,H' b=none)/\W i n σ' H') ?_ m0 ⟨0,σc,Hc,I,st,fr,w0⟩
 rintro n s5 ⟨i,σ5,H5,I5,st5,fr5,w5⟩
 rcases turn i n σ5 H5 w5 with ⟨stop,qn⟩ | ⟨go,N,hN,step⟩
 ·refine thn (T.done (zaH X pins scope cl x0 C Nc s H fp) rfl rfl rfl hc i [] s5 σ5 H5 NoX I5 (stat fr5) st5 stop) fun r s6 ⟨hr,I6⟩=>?_
  subst hr
  exact h s6 σ5 H5 I6 fr5 qn
 ·refine thn (T.item (zaH X pins scope cl x0 C Nc s H fp) rfl rfl rfl hc i [] s5 σ5 H5 NoX I5 (stat fr5) st5 go) fun r s6 ⟨u,hr,h6⟩=>?_
  subst hr
  refine thn h6 fun _ s7 ⟨x,H7,I7,r7,y7,st7,fr7⟩=>?_
  have I7':=I7.pinned (stat fr7) (T.obj _ _ st7)
  refine thn (hg _ s7 σ5 H7 x u _ I7' r7 (step x H7 y7)) fun _ s8 ⟨σ8,H8,I8,q8⟩=>?_
  refine thn (ht _ s8 σ8 H8 _ I8 q8) fun b s9 ⟨H9,I9,q9⟩=>?_
  have again:∀ {σ':St} {H':Hp} {s':Shared},Inv (zaH X pins scope cl x0 C Nc s H fp) ([]++zeZ fp s7.heap) σ' H' s'->N σ' H'->∃ m,m<n/\∃ i σ' H',Inv (zaH X pins scope cl x0 C Nc s H fp) [] σ' H' s'/\tn i s'.heap/\(∀ b∈fp,H' b=none)/\W i m σ' H':=fun {σ' H' s'} J' n'=>by
   obtain ⟨m',hm,w'⟩:=hN σ' H' n'
   have P:∀ b∈fp,∀ o,s7.heap.get? b=some o->s'.heap.get? b=some o/\H' b=none:=fun b hb o e =>
    have q:=J'.pin (b,o) (List.mem_append_right _ (List.mem_append_right _ (zbv hb e)))
    ⟨q.1,q.2.1⟩
   refine ⟨m',hm,i+1,σ',H',J'.unpinned,T.keep _ _ _ st7 fun b hb o e=>(P b hb o e).1,fun b hb=>?_,w'⟩
   obtain ⟨o,e,_⟩:=T.obj _ _ st7 b hb
   exact (P b hb o e).2
  cases b with
  | false =>
   rw [if_neg (by decide)]
   exact again I9 q9
  | true =>
   rw [if_pos rfl]
   refine thn (he _ s9 σ8 H9 _ I9 q9) fun v s10 ⟨y,H10,I10,r10,ys,hD,hz,n10⟩=>?_
   refine thn (zef _ s10 σ8 H10 (.ref D) [y] (.ref D) [v] (fun _ H11=>N σ8 H11) I10 rfl (.cons r10 .nil) ⟨D,ys,y,rfl,rfl,hD,hz,n10⟩) fun _ s11 ⟨_,H11,I11,_,n11⟩=>?_
   exact again I11 n11
end
def zkb (X:Cx)(scope:Scope)(cl:List (Str×Addr))(x0:Str)(Nc:List Str)(target elt:Expr)(ifs:List Expr)(g:TG)(tt:TT)(te:TE) : Prop :=
 ∀ (pins:List (Addr×Obj)) (C:Addr) (s3:Shared) (H3:Hp) (fp:List Addr),PG (zaH X pins scope cl x0 C Nc s3 H3 fp) target g/\PIf (zaH X pins scope cl x0 C Nc s3 H3 fp) ifs tt/\PE (zaH X pins scope cl x0 C Nc s3 H3 fp) elt te
section
variable {M:Model}{A:Around}{E:Value->Shared->Prop}{s:Shared}
theorem zlN {scope:Scope}{globals:Addr}{cl:List (Str×Addr)}{qual x0:Str}{o:Env}{Q:Env->Shared->Prop}(hcc:∀ n acc,cellsFrom n scope.names acc=(x0,n)::acc)(hpc:∀ h,pushCells h scope.names=h.push { cls:=.type "cell", data:=.cell none })
  (h:Q { scope,locals:=s.heap.objs.size,globals,cells:=(x0,s.heap.objs.size+1)::cl,qual,func:=none,code:=o.code,frame:=o.frame,builtins:=o.builtins } { s with heap:=(s.heap.push { cls:=.type "dict", data:=.dict #[] }).push { cls:=.type "cell", data:=.cell none } }) :
  wpAny M A (newFunctionEnv scope globals cl [] qual none .none (some o)) Q E s:=by
 simp only [newFunctionEnv,Option.isSome_some,if_true]
 refine wpAny_bind (wpAny_alloc ?_)
 refine wpAny_bind (wpAny_layCells _ (fun name kind cells=>by cases hkc:kind == NameKind.cell<;>simp [hkc]) _ _ _ _ ?_)
 rw [hcc,hpc,show ({ s with heap:=s.heap.push { cls:=.type "dict", data:=.dict #[] } } : Shared).heap.objs.size=s.heap.objs.size+1 from Heap.size_push ..]
 rw [List.forIn_nil]
 exact wpAny_bind (wpAny_pure (wpAny_pure h))
end
section
variable {X:Cx}{pins:List (Addr×Obj)}{σ:St}{H:Hp}{s:Shared}{scope:Scope}{cl:List (Str×Addr)}{x0:Str}{Nc:List Str}{js:List (Option Nat)}{target elt iter:Expr}{ifs:List Expr}{pos:Pos}{wi:TI}{g:TG}{tt:TT}{te:TE}
theorem zg5 {Q:VK}{J:It}{it:Addr}{fp:List Addr}{tn:Nat->Heap->Prop}{RR:Value->Addr->Result->Shared->Prop}{E:Value->Shared->Prop}(hc:X.calm=true)(S:CompScopeC X scope cl x0 Nc js)(B:zkb X scope cl x0 Nc target elt ifs g tt te)
  (I:Inv X pins σ H s) (T:Turn X.prog X.w X.K target J fp it tn) (st:tn 0 s.heap) (hf:∀ b∈fp,FpOk X pins H b) (hw:∀ D,H D=none->zcD J g tt te D Q (capt js σ) (upd H D (.lst [])))
  (h:∀ D C s' H' m,Inv X pins σ H' s'->s'.heap.Ns C m->FpOk X pins H' C->Q (.ref D) H'->RR (.ref D) C (.ok .next) s') :
  wpAny (model X.prog X.w) X.A (newList []) (fun acc s3=>wpAny (model X.prog X.w) X.A (newFunctionEnv scope X.env.globals cl [] X.env.qual none .none (some X.env)) (fun cenv s4 =>
   codeAny (model X.prog X.w) X.A (.compStart (.ListComp elt [⟨target,iter,ifs,0⟩] scope pos) 0 (.ref it) acc { cenv with scope:=relabel scope X.env }) (RR acc cenv.locals) s4) E s3) E s:=by
 have hD:H s.heap.objs.size=none:=I.fresh
 have I3:Inv X pins σ (upd H s.heap.objs.size (.lst [])) { s with heap:=s.heap.push { cls:=.type "list", data:=.seq ([] : List Value).toArray } }:=I.lnew (t':=s.toks) (its:=[]) (ys:=[]) .nil (Nat.zero_le _)
 refine wpAny_newList (zlN S.hcc S.hpc ?_) (Nat.zero_le _)
 generalize hs3:({ s with heap:=s.heap.push { cls:=.type "list", data:=.seq ([] : List Value).toArray } } : Shared)=s3 at I3
 have hz:({ s with heap:=s.heap.push { cls:=.type "list", data:=.seq ([] : List Value).toArray } } : Shared)=s3:=hs3
 have hn':((s3.heap.push { cls:=.type "dict", data:=.dict #[] }).push { cls:=.type "cell", data:=.cell none }).Ns s3.heap.objs.size (fun _=>none):=(Heap.Ns.new s3.heap (.type "dict")).keeps fun b o e=>Heap.get?_push_of_some _ e
 have hcell:((s3.heap.push { cls:=.type "dict", data:=.dict #[] }).push { cls:=.type "cell", data:=.cell none }).IsCell (s3.heap.objs.size+1) none:=⟨_,by rw [<- Heap.size_push s3.heap { cls:=.type "dict", data:=.dict #[] }];exact Heap.get?_push_size _ rfl,rfl⟩
 have kp:∀ b o,s3.heap.get? b=some o->((s3.heap.push { cls:=.type "dict", data:=.dict #[] }).push { cls:=.type "cell", data:=.cell none }).get? b=some o:=fun b o e=>Heap.get?_push_of_some _ (Heap.get?_push_of_some _ e)
 show codeAny _ _ _ _ { s3 with heap:=(s3.heap.push { cls:=.type "dict", data:=.dict #[] }).push { cls:=.type "cell", data:=.cell none } }
 generalize hh1:(s3.heap.push { cls:=.type "dict", data:=.dict #[] }).push { cls:=.type "cell", data:=.cell none }=h1 at hn' hcell kp ⊢
 have fpo:∀ b∈fp,∃ o,s.heap.get? b=some o:=fun b hb=>let ⟨o,e,_⟩:=T.obj 0 _ st b hb;⟨o,e⟩
 have k2:∀ b o,s.heap.get? b=some o->s3.heap.get? b=some o:=fun b o e=>by rw [<- hs3];exact Heap.get?_push_of_some _ e
 have hf3:∀ b∈fp,FpOk X pins (upd H s.heap.objs.size (.lst [])) b:=fun b hb=>by
  refine FpOk.of (hf b hb) ?_
  obtain ⟨o,e⟩:=fpo b hb
  rw [zam (Nat.ne_of_lt (Heap.lt_size e))]
  exact (hf b hb).1
 have Ic:Inv (zaH X pins scope cl x0 s3.heap.objs.size Nc s3 (upd H s.heap.objs.size (.lst [])) fp) [] (capt js σ) (upd H s.heap.objs.size (.lst [])) { s3 with heap:=h1,toks:=s3.toks } :=
  zi1 S I3 hf3 (fun b hb=>let ⟨o,e⟩:=fpo b hb;⟨o,k2 b o e⟩) (Nat.le_refl _) hcell hn' kp
 have st4:tn 0 h1:=T.keep 0 _ _ st fun b hb o e=>kp b o (k2 b o e)
 obtain ⟨b1,b2,b3⟩:=B pins s3.heap.objs.size s3 (upd H s.heap.objs.size (.lst [])) fp
 have loop:codeAny (model X.prog X.w) X.A (.compLoop (.ListComp elt [⟨target,iter,ifs,0⟩] scope pos) 0 (.ref it) (.ref s.heap.objs.size) (compEnvC scope ((x0,s3.heap.objs.size+1)::cl) s3.heap.objs.size X.env)) (RR (.ref s.heap.objs.size) s3.heap.objs.size) { s3 with heap:=h1,toks:=s3.toks }:=by
  refine zjj hc T hf3 b1 b2 b3 Ic st4 (fun b hb=>(hf3 b hb).1) (hw _ hD) fun s' σ' H' I' fr' q'=>?_
  obtain ⟨m,hm,_⟩:=I'.loc
  have Io:Inv X pins σ H' s':=I3.call' (ch:=fp) I'.os I'.base I'.hok I'.bare fun b hb=>⟨(hf3 b hb).2.2.2.1,(hf3 b hb).2.1,(hf3 b hb).2.2.2.2.1,(hf3 b hb).2.2.2.2.2⟩
  exact h _ _ s' H' m Io hm (I3.fpOk (Nat.le_refl _) I'.free) q'
 exact codeAny_compStart_list loop (T.self X.A 0 _ _ _ (show tn 0 h1 from st4) loop)
theorem zkX (hc:X.calm=true)(S:CompScopeC X scope cl x0 Nc js)(hi:PI X target iter wi)(B:zkb X scope cl x0 Nc target elt ifs g tt te)(hs:∀ x,foldedSetIterable iter X.env x=pure x:=by intro _;rfl) :
  PE X (.ListComp elt [⟨target,iter,ifs,0⟩] scope pos) (zd3 js wi g tt te):=by
 intro pins s σ H Q I h
 rw [eval_ListComp]
 refine wpAny_comprehension_free (use:=none) rfl hs S.clos S.kind S.nms (thn (hi pins s σ H _ I h) fun xv s1 h1=>thn h1 fun itv s2 h2=>?_)
 obtain ⟨it,fp,tn,J,H2,e,I2,T,st2,f2,hw⟩:=h2
 subst e
 refine zg5 hc S B I2 T st2 f2 hw fun D C s' H' m I' hm fC q=>?_
 exact ⟨m,hm,fun h' hs'=>⟨.ref D,H',I'.lettingGo fC hs',rfl,q⟩⟩
end
theorem zfE {X:Cx}{scope:Scope}{cl:List (Str×Addr)}{x0:Str}{Nc:List Str}{js:List (Option Nat)}(clos:closureFor scope X.env=pure cl)(kind:scope.kind=.function)
  (hcc:∀ n acc,cellsFrom n scope.names acc=(x0,n)::acc) (hpc:∀ h,pushCells h scope.names=h.push { cls:=.type "cell", data:=.cell none }) (b2:(scope.names.all fun y=>decide (y.2=.local->scope.names.lookup y.1=some .local))=true)
  (sub:∀ x c,(x,c)∈cl->X.env.cells.lookup x=some c) (b3:((relabel scope X.env).names.all fun y=>!(y.2 == .cell||y.2 == .free)||(y.1 == x0||(cl.lookup y.1).isSome))=true) (len:js.length=Nc.length)
  (b4:((Nc.zip js).all fun y=>match y.2 with
   | none=>true
   | some j=>decide (X.N[j]?=some y.1)&&decide (X.env.kindOf y.1=some .cell\/X.env.kindOf y.1=some .free)&&decide ((relabel scope X.env).names.lookup y.1=some .cell\/(relabel scope X.env).names.lookup y.1=some .free) && !(y.1 == x0))=true) : CompScopeC X scope cl x0 Nc js where
 clos:=clos
 hcc:=hcc
 hpc:=hpc
 kind:=kind
 nms:=fun y hy=>of_decide_eq_true (List.all_eq_true.mp b2 y hy)
 sub:=fun x c h=>sub x c (PySem.mem_of_lookup h)
 has:=fun x hx=>by
  have go:∀ k:NameKind,(k == .cell||k == .free)=true->(relabel scope X.env).names.lookup x=some k->x=x0\/∃ c,cl.lookup x=some c:=fun k hk e=>by
   have:=List.all_eq_true.mp b3 (x,k) (PySem.mem_of_lookup e)
   dsimp only at this
   rw [hk,Bool.not_true,Bool.false_or,Bool.or_eq_true] at this
   exact this.imp (fun z=>beq_iff_eq.mp z) fun z=>Option.isSome_iff_exists.mp z
  rcases hx with z | z
  ·exact go .cell rfl z
  ·exact go .free rfl z
 len:=len
 cap:=fun i x j h1 h2=>by
  have hm:(x,some j)∈Nc.zip js:=by
   have:(Nc.zip js)[i]?=some (x,some j):=by rw [List.getElem?_zip_eq_some];exact ⟨h1,h2⟩
   exact List.mem_of_getElem? this
  have:=List.all_eq_true.mp b4 _ hm
  dsimp only at this
  rw [Bool.and_eq_true,Bool.and_eq_true,Bool.and_eq_true] at this
  exact ⟨of_decide_eq_true this.1.1.1,of_decide_eq_true this.1.1.2,of_decide_eq_true this.1.2,fun z=>by have q:=this.2;rw [z,beq_self_eq_true] at q;cases q⟩
section
variable {X:Cx}{scope:Scope}{cl:List (Str×Addr)}{x0:Str}{Nc:List Str}{js:List (Option Nat)}{target elt iter:Expr}{ifs:List Expr}{wi:TI}{g:TG}{tt:TT}{te:TE}{pos:Pos}{x:Str}
def JInC (X:Cx)(scope:Scope)(cl:List (Str×Addr))(x0:Str)(Nc:List Str)(target elt:Expr)(ifs:List Expr)(g:TG)(tt:TT)(te:TE) : Prop :=
 ∀ (pins:List (Addr×Obj)) (C:Addr) (s3:Shared) (H3:Hp) (fp:List Addr),JG (zaH X pins scope cl x0 C Nc s3 H3 fp) target g/\((ifs=[]/\tt=tYes)\/∃ c,ifs=[c]/\JT (zaH X pins scope cl x0 C Nc s3 H3 fp) c tt)/\JE (zaH X pins scope cl x0 C Nc s3 H3 fp) elt te
theorem JInC.inner (B:JInC X scope cl x0 Nc target elt ifs g tt te) : zkb X scope cl x0 Nc target elt ifs g tt te:=fun pins C s3 H3 fp=>by
 obtain ⟨h1,h2,h3⟩:=B pins C s3 H3 fp
 refine ⟨h1.h,?_,h3.h⟩
 rcases h2 with ⟨rfl,rfl⟩ | ⟨c,rfl,h2⟩
 ·exact zjQ
 ·exact ziM h2.h
theorem zhm (S:CompScopeC X scope cl x0 Nc js)(hi:JI X target iter wi)(B:JInC X scope cl x0 Nc target elt ifs g tt te)(hc:X.calm=true:=by rfl)(hs:Pln iter:=by constructor) : JE X (.ListComp elt [⟨target,iter,ifs,0⟩] scope pos) (zd3 js wi g tt te) :=
 ⟨zkX hc S hi.h B.inner (hs.fold _)⟩
end
theorem znk {X:Cx}{x:Str}{e:Expr}{te:TE}{pos:Pos}(i:Nat){pos':Pos}(hN:X.N.Nodup)(he:JE X e te)(hsw:swapsWith e (some (.Name x pos')) pos.line X.env=pure false:=by rfl)(hi:X.N[i]?=some x:=by rfl)(hx:Loc X.env.scope x:=by first | exact Or.inl rfl | exact Or.inr rfl)
  (hf:X.fn x=true\/X.env.scope.names.lookup x=some .local:=by first | exact .inl rfl | exact .inr rfl) : JS X (.Assign [.Name x pos'] e pos) (tAsg te (zas i)):=⟨zjw hN hi hx he.h hsw hf⟩
end L2
namespace Prf
open PySem L2 Wr
section
variable {P:Program}{w:World}{K:PySem.W.Frag}{mg:Str->Option Value}{base:Heap}
theorem zb9:FnScope ["_law_numbers","_law_sums","_law_rows","_law_told","_law_key","_law_some"] ["_law_numbers","_law_sums","_law_rows"] (zad zcg):=by walk_at "sc"
theorem zd8 {f:Addr}{fd:FuncData}(F:Fun K "_law_grouped" "_law_grouped" zcg f fd)(B:Blts mg)(F__law_lines:FnP P w K mg base 1 "_law_lines" ["_law_rows"] zba)(F__law_total:FnP P w K mg base 1 "_law_total" ["_law_one","_law_rows"] zbN) : FnOk P w K mg base CX0 2 f fd ["_law_numbers","_law_sums","_law_rows"] zcr:=by
 refine F.okJ zb9 (fun vs H Q E h=>?_) (fun cdv A outer s H vs Q E hr h=>?_)
 ·obtain ⟨_,_,_,_,_,_,_,_,_,rfl,_⟩:=h
  rfl
 ·obtain ⟨c,m,a,ms,xs,cs,ag,rs,L,rfl,hc,hm,pm,ha,px,wid,sub,oka,l50,la,l60,k⟩:=h
  have nd:=zb9.nd
  have nd2:(["_law_row","_law_numbers"] : List Str).Nodup:=by decide +kernel
  have ndi:(["_law_i","_law_row"] : List Str).Nodup:=by decide +kernel
  have nd3:(["_law_row","_law_key","_law_numbers"] : List Str).Nodup:=by decide +kernel
  have ndo:(["_law_one","_law_some"] : List Str).Nodup:=by decide +kernel
  refine ⟨_,(zab (zar 3 nd (zbC a0))
   (zab (zdI (zaz (e_fn F__law_lines hr (a1c (zhm (x0 := "_law_row") (Nc:=["_law_row","_law_numbers"]) (js:=[none,some 0]) (g:=(zas 0)) (tt:=tYes) (te:=(tCB (fun xs H Q=>∃ p ys,xs=[.ref p]/\((SqL K H p ys/\∀ l,H l=none->Q (.ref l) (upd H l (.tup ys)))\/(SqT K H p ys/\Q (.ref p) H))) (zaf (zd3 [none,some 0] (zhg K (tVar 1)) (zas 0) tYes (tOp (rIxT K) (tVar 1) (tVar 0))) tNil)))
   (zfE rfl rfl (fun _ _=>rfl) (fun _=>rfl) rfl (fun x c h=>by (obtain ⟨rfl,rfl⟩ : x=_/\c=_:=(by simpa using h));rfl) rfl rfl rfl) (zaz (e_v 2))
   (fun pins C s3 H3 fp=>⟨(g_n 0 nd2),.inl ⟨rfl,rfl⟩,(e_ct zcE B.tuple PyProof.Rows.boot_tuple (a1c (zaP (Nc:=["_law_i","_law_row"]) (js:=[none,some 0]) (g:=(zas 0)) (tt:=tYes) (te:=(tOp (rIxT K) (tVar 1) (tVar 0)))
   (zat rfl rfl rfl rfl (fun x c h=>by (obtain ⟨rfl,rfl⟩ : x=_/\c=_:=(by simpa using h));rfl) rfl rfl rfl) (zaz (e_v 1))
   (fun pins C s3 H3 fp=>⟨(g_n 0 ndi),.inl ⟨rfl,rfl⟩,(e_ix zag (e_v 1) (e_v 0))⟩))))⟩))))) (g_n 4 nd)
    (zab (znk 5 nd (zhm (x0 := "_law_row") (Nc:=["_law_row","_law_key","_law_numbers"]) (js:=[none,some 4,some 0]) (g:=(zas 0)) (tt:=(zb3 (tOp (rEqD K) (tCB (fun xs H Q=>∃ p ys,xs=[.ref p]/\((SqL K H p ys/\∀ l,H l=none->Q (.ref l) (upd H l (.tup ys)))\/(SqT K H p ys/\Q (.ref p) H))) (zaf (zd3 [none,some 0] (zhg K (tVar 2)) (zas 0) tYes (tOp (rIxT K) (tVar 1) (tVar 0))) tNil)) (tVar 1)))) (te:=(tVar 0))
   (zfE rfl rfl (fun _ _=>rfl) (fun _=>rfl) rfl (fun x c h=>by simp at h;rcases h with ⟨rfl,rfl⟩ | ⟨rfl,rfl⟩<;>rfl) rfl rfl rfl) (zaz (e_v 2))
   (fun pins C s3 H3 fp=>⟨(g_n 0 nd3),.inr ⟨_,rfl,(zap (zmK hr) (e_ct zcE B.tuple PyProof.Rows.boot_tuple (a1c (zaP (Nc:=["_law_i","_law_row"]) (js:=[none,some 0]) (g:=(zas 0)) (tt:=tYes) (te:=(tOp (rIxT K) (tVar 1) (tVar 0)))
   (zat rfl rfl rfl rfl (fun x c h=>by (obtain ⟨rfl,rfl⟩ : x=_/\c=_:=(by simpa using h));rfl) rfl rfl rfl) (zaz (e_v 2))
   (fun pins C s3 H3 fp=>⟨(g_n 0 ndi),.inl ⟨rfl,rfl⟩,(e_ix zag (e_v 1) (e_v 0))⟩)))) (e_v 1))⟩,(e_v 0)⟩)))
    (zac (ziy (e_v 3) (e_op zhF (e_v 4) (e_ct zcE B.tuple PyProof.Rows.boot_tuple (a1c (zaP (Nc:=["_law_one","_law_some"]) (js:=[none,some 5]) (g:=(zas 0)) (tt:=tYes) (te:=(zbp zbN [] E0 (zaf (tVar 0) (zaf (tVar 1) tNil))))
   (zat rfl rfl rfl rfl (fun x c h=>by simp at h;rcases h with ⟨rfl,rfl⟩<;>rfl) rfl rfl rfl) (zaz (e_v 1))
   (fun pins C s3 H3 fp=>⟨(g_n 0 ndo),.inl ⟨rfl,rfl⟩,(e_fn F__law_total hr (ac (e_v 0) (a1 (e_v 1))))⟩)))))))))
   (zac (zaj (e_v 3))))),?_⟩
  have lx:xs.length=rs.length:=Paired.length px
  have lm:ms.length=ag.length:=Paired.length pm
  refine ⟨Nat.zero_le _,fun b hb=>?_⟩
  obtain ⟨H0,e,s0,u0⟩:=fresh (.lst []) hb;rw [e];clear e
  refine ⟨_,rfl,a,rfl,⟨_,SqL.of (s0 _ _ ha)⟩,fun D hD=>?_⟩
  refine zdT (f:=pick cs) hD (s0 _ _ ha) (rS s0 px) (by lia) (fun H1 v r R s1 ⟨u,e,hu⟩ hrm kk=>?_) fun H4 us s4 h4 pu=>?_
  ·subst e
   refine ⟨_,rfl,c,rfl,⟨_,SqL.of ((s0.trans s1) _ _ hc)⟩,fun D2 hD2=>zet (row:=r) hD2 ((s0.trans s1) _ _ hc) hu (fun i hi=>by rw [wid r hrm];exact sub i hi) l50 fun H5 s5 h5=>⟨D2,_,rfl,.inl ⟨SqL.of h5,fun v hv=>kk v _ (s5.trans ((Same.refl H5).upd hv)) zaa⟩⟩⟩
  have emp:(∀ q∈rs.map (pick cs),q≠[])\/∀ q∈rs.map (pick cs),q=[]:=by
   by_cases z:cs.length=0
   ·exact .inr fun q hq=>by obtain ⟨r,_,rfl⟩:=List.mem_map.mp hq;exact List.length_eq_zero_iff.mp (by rw [zaW];exact z)
   ·exact .inl fun q hq y=>by obtain ⟨r,_,rfl⟩:=List.mem_map.mp hq;exact z (by rw [<- zaW cs r,y];rfl)
  refine ⟨D,us,_,rfl,h4,pu,emp,by rw [List.length_map];lia,fun p1 H1 zs ls s41 hp1 h1 pz LN=>?_⟩
  have s01:Same H0 H1:=s4.trans s41
  have sH1:Same H H1:=s0.trans s01
  have ub:=s01 _ _ u0
  have nb1:b≠p1:=fun z=>by have e:=s4 _ _ u0;rw [z,hp1] at e;cases e
  have lz:zs.length=ls.length:=Paired.length pz
  have lls:ls.length<=60:=by
   have:=zgh LN
   rw [List.length_map] at this
   lia
  refine ⟨p1,rfl,⟨zs,SqL.of h1⟩,zbl (K:=K) (a:=p1) (xs:=zs) (fun i σ H'=>∃ (o4 o5:Option V) (ws:List V) (out:List (List Int)),σ=[some (.ref c),some (.ref m),some (.ref a),some (.ref b),o4,o5]/\Same H H'/\(∀ c o,c≠b->H1 c=some o->H' c=some o)/\H' b=some (.lst ws)/\Paired (RowAt H') ws out/\Paired (fun o k=>∃ ns,o=k++ns/\Paired (fun m a=>Sm.is (grp cs rs k) a m) ns ag) out (ls.take i))
   ⟨none,none,[],[],rfl,sH1,fun _ _ _ h=>h,ub,.nil,.nil⟩ (fun i σ H' _ ⟨_,_,_,_,_,_,kp,_⟩=>SqL.of (kp _ _ nb1.symm h1)) ?_ ?_⟩
  ·rintro i x σ H5 hx ⟨o4,o5,ws,out,rfl,s05,kp,h5,pw,po⟩
   obtain ⟨q,hq1,t,rfl,ht⟩:=zan pz hx
   have hi:=gE hq1
   have ntb:t≠b:=fun z=>by rw [z,ub] at ht;cases ht
   have ht5:=kp _ _ ntb ht
   have hqm:q∈rs.map (pick cs):=(LN.mem q).mp (gM hq1)
   have lws:ws.length=i:=by rw [Paired.length pw,Paired.length po,List.length_take];lia
   refine ⟨_,rfl,a,rfl,⟨xs,SqL.of (s05 _ _ ha)⟩,fun D hD=>?_⟩
   refine zcb (f:=fun r=>decide (pick cs r=q)) hD (s05 _ _ ha) (rS s05 px) (by lia) (fun H1 v r R s1 ⟨u,e,hu⟩ hrm hR=>?_) fun H8 us s8 h8 pu8=>?_
   ·subst e
    have s01:=s05.trans s1
    refine ⟨_,rfl,c,rfl,⟨_,SqL.of (s01 _ _ hc)⟩,fun D3 hD3=>zet (row:=r) hD3 (s01 _ _ hc) hu (fun i hi=>by rw [wid r hrm];exact sub i hi) l50 fun H9 s9 h9=>⟨D3,_,rfl,.inl ⟨SqL.of h9,fun v' hv'=>?_⟩⟩⟩
    have s10:Same H9 (upd H9 v' (.tup ((pick cs r).map V.int))):=(Same.refl H9).upd hv'
    refine ⟨_,rfl,_,_,RowAt.den ⟨v',rfl,zaa⟩,RowAt.den ⟨t,rfl,s10 _ _ (s9 _ _ (s1 _ _ ht5))⟩,zcs _,zcs _,_,rfl,?_⟩
    rw [zg0]
    exact hR _ (s9.trans s10)
   have s08:=s05.trans s8
   have gne:grp cs rs q≠[]:=by
    obtain ⟨r,hr',e⟩:=List.mem_map.mp hqm
    exact List.ne_nil_of_mem (List.mem_filter.mpr ⟨hr',decide_eq_true e⟩)
   have gl:(grp cs rs q).length<=rs.length:=List.length_filter_le _ _
   refine ⟨_,rfl,.inl ⟨rfl,_,SqL.of (s8 _ _ h5)⟩,_,rfl,_,rfl,m,rfl,⟨_,SqL.of (s08 _ _ hm)⟩,fun D2 hD2=>?_⟩
   refine zaK (K:=K) (a:=m) (xs:=ms) (fun j _ σ H'=>∃ (o:Option V) (ns:List Int),σ=[o,some (.ref D)]/\Same H8 H'/\H' D2=some (.lst (ns.map V.int))/\Paired (fun m a=>Sm.is (grp cs rs q) a m) ns (ag.take j))
    ⟨none,[],rfl,(Same.refl H8).upd hD2,zaa,.nil⟩ (fun j _ σ H' _ ⟨_,_,_,sm,_⟩=>SqL.of (sm _ _ (s08 _ _ hm))) ?_ ?_
   ·rintro j y _ σ H9 hy ⟨o,ns,rfl,sm,h9,pn⟩
    obtain ⟨g,hg1,hg⟩:=zan pm hy
    have hj:=gE hg1
    have ln:ns.length=(ag.take j).length:=Paired.length pn
    refine ⟨_,rfl,_,rfl,y,D,g,us,grp cs rs q,rfl,hg.same (s08.trans sm),sm _ _ h8,rS sm pu8,fun r hr'=>by rw [wid r (List.mem_filter.mp hr').1];exact oka g (gM hg1),gne,by lia,fun v H10 s10 hv=>?_⟩
    refine ⟨_,s10 _ _ h9,zah (by rw [List.length_map,ln,List.length_take];lia),[],_,ns++[v],rfl,(sm.trans s10).upd hD2,?_,?_⟩
    ·rw [zaa,List.map_append];rfl
    ·rw [take_snoc hg1]
     exact zak (R:=fun m a=>Sm.is (grp cs rs q) a m) hv pn
   rintro _ σ H9 ⟨o,ns,rfl,s9,h9,pn⟩
   rw [lm,List.take_length] at pn
   have ln:ns.length=ag.length:=Paired.length pn
   refine ⟨D2,_,rfl,.inl ⟨SqL.of h9,fun v hv=>?_⟩⟩
   obtain ⟨H10,e,s10,u10⟩:=fresh (.tup (ns.map V.int)) hv;rw [e];clear e
   have s5a:Same H5 H10:=s8.trans (s9.trans s10)
   have htA:=s5a _ _ ht5
   have lq:q.length<=50:=by obtain ⟨r,_,e⟩:=List.mem_map.mp hqm;rw [<- e,zaW];exact l50
   have po':Paired (fun o k=>∃ ns,o=k++ns/\Paired (fun m a=>Sm.is (grp cs rs k) a m) ns ag) (out++[q++ns]) (ls.take (i+1)):=by
    rw [take_snoc hq1]
    exact zak (R:=fun o k=>∃ ns,o=k++ns/\Paired (fun m a=>Sm.is (grp cs rs k) a m) ns ag) ⟨ns,rfl,pn⟩ po
   have put:∀ (v:Addr) (H6:Hp),Same H5 H6->H6 v=some (.tup ((q++ns).map V.int))->Same H (upd H6 b (.lst (ws++[.ref v])))/\(∀ c o,c≠b->H1 c=some o->upd H6 b (.lst (ws++[.ref v])) c=some o)/\Paired (RowAt (upd H6 b (.lst (ws++[.ref v])))) (ws++[.ref v]) (out++[q++ns]):=fun v H6 s6 hv=>by
    have nt:=zbW (s6 _ _ h5)
    exact ⟨(s05.trans s6).upd hb,fun c o hcb e=>by rw [zam hcb];exact s6 _ _ (kp c o hcb e),zak (R:=RowAt _) (zbf nt ⟨v,rfl,hv⟩) (Paired.mapP pw fun _ _ z=>zbf nt (RowAt.same s6 z))⟩
   have app:∀ (v:Addr) (H6:Hp) (o4 o5:Option V) (D':Ends),Same H5 H6->H6 v=some (.tup ((q++ns).map V.int))->(∀ σ' H'',(∃ (o4 o5:Option V) (ws:List V) (out:List (List Int)),σ'=[some (.ref c),some (.ref m),some (.ref a),some (.ref b),o4,o5]/\Same H H''/\(∀ c o,c≠b->H1 c=some o->H'' c=some o)/\H'' b=some (.lst ws)/\Paired (RowAt H'') ws out/\Paired (fun o k=>∃ ns,o=k++ns/\Paired (fun m a=>Sm.is (grp cs rs k) a m) ns ag) out (ls.take (i+1)))->D'.nx σ' H'')->zdz (.ref b) [.ref v] H6 (fun _ H'=>D'.nx [some (.ref c),some (.ref m),some (.ref a),some (.ref b),o4,o5] H'):=by
    intro v H6 o4 o5 D' s6 hv hN
    obtain ⟨g1,g2,g3⟩:=put v H6 s6 hv
    exact ⟨b,ws,_,rfl,rfl,s6 _ _ h5,zah (by lia),hN _ _ ⟨o4,o5,ws++[.ref v],out++[q++ns],rfl,g1,g2,zaa,g3,po'⟩⟩
   refine ⟨t,v,_,_,rfl,rfl,SqT.of htA,SqT.of u10,by rw [List.length_map,List.length_map,sizeLine_eq];lia,fun z=>?_,fun _ z=>?_,fun _ _ e he=>?_⟩
   ·have e0:q=[]:=List.map_eq_nil_iff.mp z
    exact app v H10 _ _ _ s5a (by rw [u10,e0];rfl) fun σ' H'' h=>h
   ·have e0:ns=[]:=List.map_eq_nil_iff.mp z
    exact app t H10 _ _ _ s5a (by rw [e0,List.append_nil];exact htA) fun σ' H'' h=>h
   ·have s11:Same H10 (upd H10 e (.tup (q.map V.int++ns.map V.int))):=(Same.refl H10).upd he
    exact app e _ _ _ _ (s5a.trans s11) (by rw [zaa,List.map_append]) fun σ' H'' h=>h
  ·rintro σ H5 ⟨o4,o5,ws,out,rfl,s05,kp,h5,pw,po⟩
   rw [lz,List.take_length] at po
   exact ⟨_,rfl,k b H5 ws out ls s05 hb h5 pw ⟨LN.ord,LN.nd,fun q=>by rw [LN.mem,List.mem_map],po⟩⟩
end
def raw:Op2->List (List Int)->List (List Int)->List (List Int)
 | .join,ra,rb=>zck ra rb
 | .union,ra,rb=>ra++rb
 | .common,ra,rb=>ra.filter fun r=>decide (r∈rb)
 | .less,ra,rb=>ra.filter fun r=>decide (r∉rb)
theorem zjP (ls:List (List Int))(r:List Int) : (ls.any fun x=>decide (x=r))=decide (r∈ls):=by
 rw [Bool.eq_iff_iff,List.any_eq_true,decide_eq_true_iff]
 exact ⟨fun ⟨x,h,e⟩=>of_decide_eq_true e ▸ h,fun h=>⟨r,h,decide_eq_true rfl⟩⟩
section
variable {K:PySem.W.Frag}{A B:TS}{D:Ends}{σ:St}{H:Hp}{i:Nat}{x a b c d:Str}
theorem in4L (hx:σ[i]?=some (some (.str x)))(h1:(a == x||b == x||c == x||d == x)=true->∀ H',Same H H'->A D σ H')(h2:(a == x||b == x||c == x||d == x)=false->∀ H',Same H H'->B D σ H') :
  tIfS (zb3 (tOp (rIn K false) (tVar i) (tLst (zaf (tC (.str a)) (zaf (tC (.str b)) (zaf (tC (.str c)) (zaf (tC (.str d)) tNil))))))) A B D σ H:=by
 refine ⟨_,hx,by show 4<=sizeLine;exact sm,fun u hu=>?_⟩
 obtain ⟨H1,e,s1,u1⟩:=fresh (.lst [.str a,.str b,.str c,.str d]) hu;rw [e];clear e;replace u1:H1 u=some (.lst (([a,b,c,d] : List Str).map V.str)):=u1
 refine ⟨u,_,rfl,.inl (SqL.of u1),rfl,zew _,_,rfl,?_⟩
 have e:(if false=true then !inV (V.str x) (([a,b,c,d] : List Str).map V.str) else inV (V.str x) (([a,b,c,d] : List Str).map V.str))=(a == x||b == x||c == x||d == x):=by
  show ((a == x)||((b == x)||((c == x)||((d == x)||false))))=_
  rw [Bool.or_false,Bool.or_assoc,Bool.or_assoc]
 rw [e]
 cases q:(a == x||b == x||c == x||d == x) with
 | true=>exact iteT (h1 q H1 s1)
 | false=>exact iteF (h2 q H1 s1)
end
section
variable {P:Program}{w:World}{K:PySem.W.Frag}{mg:Str->Option Value}{base:Heap}
def zd2:Sp:=fun vs H Q _=>∃ (o:Op2) (a b:Addr) (xs ys:List V) (ra rb:List (List Int)),vs=[.str o.nm,.ref a,.ref b]/\H a=some (.lst xs)/\H b=some (.lst ys)/\Paired (RowAt H) xs ra/\Paired (RowAt H) ys rb/\(∀ r∈ra,r≠[]/\r.length<=50)/\(∀ r∈rb,r≠[]/\r.length<=50)/\ra.length<=60/\rb.length<=60/\(o=.join->ra.length<=20/\rb.length<=20) /\
 ∀ (p:Addr) (H':Hp) (zs:List V),Same H H'->H' p=some (.lst zs)->Paired (RowAt H') zs (raw o ra rb)->Q (.ref p) H'
theorem zem:FnScope ["_law_word","_law_one","_law_other","_law_told","_law_row"] ["_law_word","_law_one","_law_other"] (zad zeo):=by walk_at "sc"
theorem zhq {f:Addr}{fd:FuncData}(F:Fun K "_law_two" "_law_two" zeo f fd)(B:Blts mg) : FnOk P w K mg base CX0 1 f fd ["_law_word","_law_one","_law_other"] zd2:=by
 refine F.okJ zem (fun vs H Q E h=>?_) (fun cdv A outer s H vs Q E hr h=>?_)
 ·obtain ⟨_,_,_,_,_,_,_,rfl,_⟩:=h
  rfl
 ·obtain ⟨o,a,b,xs,ys,ra,rb,rfl,ha,hb,pr,pt,na,nb,la,lb,lj,k⟩:=h
  have nd:=zem.nd
  have nd2:(["_law_row","_law_other"] : List Str).Nodup:=by decide +kernel
  have nd3:(["_law_more","_law_row"] : List Str).Nodup:=by decide +kernel
  refine ⟨_,(zab (s_if (zap o_eq (e_v 0) e_s) (zac (zaj (e_op zkN (e_v 1) (e_v 2)))) zaq)
   (zab (s_if (zap o_eq (e_v 0) e_s) (zac (zaj (zaP (Nc:=["_law_row","_law_other"]) (js:=[none,some 2]) (g:=(zas 0)) (tt:=(zb3 (tOp (rInD K) (tVar 0) (tVar 1)))) (te:=(tVar 0))
   (zat rfl rfl rfl rfl (fun x c h=>by simp at h;rcases h with ⟨rfl,rfl⟩<;>rfl) rfl rfl rfl) (zaz (e_v 1))
   (fun pins C s3 H3 fp=>⟨(g_n 0 nd2),.inr ⟨_,rfl,(zn6 hr (e_v 0) (e_v 1))⟩,(e_v 0)⟩)))) zaq)
   (zab (s_if (zap o_eq (e_v 0) e_s) (zac (zaj (zaP (Nc:=["_law_row","_law_other"]) (js:=[none,some 2]) (g:=(zas 0)) (tt:=(zb3 (tOp (rNiD K) (tVar 0) (tVar 1)))) (te:=(tVar 0))
   (zat rfl rfl rfl rfl (fun x c h=>by simp at h;rcases h with ⟨rfl,rfl⟩<;>rfl) rfl rfl rfl) (zaz (e_v 1))
   (fun pins C s3 H3 fp=>⟨(g_n 0 nd2),.inr ⟨_,rfl,(zok hr (e_v 0) (e_v 1))⟩,(e_v 0)⟩)))) zaq)
   (zab (zar 3 nd (zbC a0))
   (zab (zdI (zaz (e_v 1)) (g_n 4 nd)
    (zac (zar 3 nd (e_op zkN (e_v 3) (zaP (Nc:=["_law_more","_law_row"]) (js:=[none,some 4]) (g:=(zas 0)) (tt:=tYes) (te:=(tOp (ziq K) (tVar 1) (tVar 0)))
   (zat rfl rfl rfl rfl (fun x c h=>by simp at h;rcases h with ⟨rfl,rfl⟩<;>rfl) rfl rfl rfl) (zaz (e_v 2))
   (fun pins C s3 H3 fp=>⟨(g_n 0 nd3),.inl ⟨rfl,rfl⟩,(e_op zhF (e_v 1) (e_v 0))⟩))))))
   (zac (zaj (e_v 3)))))))),?_⟩
  have lx:xs.length=ra.length:=Paired.length pr
  have ly:ys.length=rb.length:=Paired.length pt
  have den:∀ {H1:Hp} {v:V} {r:List Int},Same H H1->RowAt H1 v r->Den K H1 v (dRow r)/\Den K H1 (.ref b) (.list (rb.map dRow)):=fun {H1 v r} s1 h=>⟨h.den,.lst (SqL.of (s1 _ _ hb)) (zdh (rS s1 pt))⟩
  cases o with
  | union =>
   refine ⟨_,rfl,rfl,_,rfl,zaF ?_⟩
   refine ⟨_,rfl,_,rfl,a,b,_,_,rfl,rfl,ha,hb,by rw [lx,ly,sizeLine_eq];lia,fun r hr'=>?_⟩
   have s1:Same H (upd H r (.lst (xs++ys))):=(Same.refl H).upd hr'
   exact k r _ (xs++ys) s1 zaa (zct (rS s1 pr) (rS s1 pt))
  | common =>
   walk_at "f"
   refine ⟨_,rfl,rfl,_,rfl,zaF ?_⟩
   refine ⟨_,rfl,a,rfl,⟨_,SqL.of ha⟩,fun D hD=>zcb (f:=fun r=>decide (r∈rb)) hD ha pr (by lia) (fun H1 v r R s1 h _ hR=>?_) fun H' us s' h' pu=>k D H' us s' h' pu⟩
   refine ⟨_,rfl,_,rfl,_,_,(den s1 h).1,(den s1 h).2,(zfr r).1,(zbG rb).1,(zfr r).2,_,rfl,?_⟩
   rw [any_rows,zjP]
   exact hR H1 (Same.refl H1)
  | less =>
   walk_at "f"
   walk_at "f"
   refine ⟨_,rfl,rfl,_,rfl,zaF ?_⟩
   refine ⟨_,rfl,a,rfl,⟨_,SqL.of ha⟩,fun D hD=>zcb (f:=fun r=>decide (r∉rb)) hD ha pr (by lia) (fun H1 v r R s1 h _ hR=>?_) fun H' us s' h' pu=>k D H' us s' h' pu⟩
   refine ⟨_,rfl,_,rfl,_,_,(den s1 h).1,(den s1 h).2,(zfr r).1,(zbG rb).1,(zfr r).2,_,rfl,?_⟩
   rw [any_rows,zjP]
   have e:(!decide (r∈rb))=decide (r∉rb):=by rw [decide_not]
   rw [e]
   exact hR H1 (Same.refl H1)
  | join =>
   obtain ⟨l1,l2⟩:=lj rfl
   walk_at "f"
   walk_at "f"
   walk_at "f"
   refine ⟨Nat.zero_le _,fun p hp=>?_⟩
   obtain ⟨H0,e,s0,u0⟩:=fresh (.lst []) hp;rw [e];clear e
   refine ⟨_,rfl,a,rfl,⟨xs,SqL.of (s0 _ _ ha)⟩,zbl (K:=K) (a:=a) (xs:=xs) (fun i σ H'=>∃ (o:Option V) (q:Addr) (zs:List V),σ=[some (.str "join"),some (.ref a),some (.ref b),some (.ref q),o]/\Same H H'/\H' q=some (.lst zs)/\Paired (RowAt H') zs (zck (ra.take i) rb))
    ⟨none,p,[],rfl,s0,u0,.nil⟩ (fun i σ H' _ ⟨_,_,_,_,sm,_⟩=>SqL.of (sm _ _ ha)) ?_ ?_⟩
   ·rintro i x σ H2 hx ⟨o,q,zs,rfl,sm2,h2,pz⟩
    obtain ⟨r,hr1,t,rfl,ht⟩:=zan pr hx
    have hi:i<ra.length:=gE hr1
    have lz:zs.length=(ra.take i).length*rb.length:=by rw [Paired.length pz,zc7]
    have lz2:zs.length<=400:=by
     rw [lz,List.length_take]
     exact Nat.le_trans (Nat.mul_le_mul (Nat.le_trans (Nat.min_le_right _ _) l1) l2) (by decide)
    refine ⟨_,rfl,_,rfl,b,rfl,⟨_,SqL.of (sm2 _ _ hb)⟩,fun D hD=>?_⟩
    refine zhU hD (sm2 _ _ hb) (rS sm2 pt) (by lia) (sm2 _ _ ht) (na r (gM hr1)) nb fun H4 ws sm4 h4 pw=>?_
    ·have lw:ws.length=rb.length:=by rw [Paired.length pw,List.length_map]
     refine ⟨q,D,zs,ws,rfl,rfl,sm4 _ _ h2,h4,by rw [sizeLine_eq];lia,fun e he=>?_⟩
     have s6:Same H4 (upd H4 e (.lst (zs++ws))):=(Same.refl H4).upd he
     refine ⟨_,e,zs++ws,rfl,sm2.trans (sm4.trans s6),zaa,?_⟩
     rw [ze9 hr1]
     exact zct (rS (sm4.trans s6) pz) (rS s6 pw)
   ·rintro σ H2 ⟨o,q,zs,rfl,sm2,h2,pz⟩
    rw [lx,List.take_length] at pz
    exact ⟨_,rfl,k q H2 zs sm2 h2 pz⟩
def zbQ (n:Nat) : Sp:=fun vs H Q _=>∃ (v:V) (d:Addr) (q:Qn) (W:Str->Nat) (T:Str->List (List Int)) (N:List Str),vs=[v,.ref d]/\QAt H v q/\q.ok W N/\Tbs W T N/\q.deep<n/\TabAt H d T N /\
 ∀ (r:Addr) (H':Hp) (xs:List V) (rs:List (List Int)),Same H H'->H' r=some (.lst xs)->Paired (RowAt H') xs rs->Ans T q rs->Q (.ref r) H'
theorem zcN:FnScope ["_law_question_here","_law_tables","_law_word","_law_rows"] ["_law_question_here","_law_tables"] (zad zcR):=by walk_at "sc"
theorem zcO {f:Addr}{fd:FuncData}(F:Fun K "_law_plain" "_law_plain" zcR f fd)(hm:mg "_law_plain" = some (.ref f))(hk:PySem.W.keepIn K (.ref f)=true)(hb:Binds K fd ["_law_question_here","_law_tables"] [])(B:Blts mg)
  (F__law_lines:FnP P w K mg base 1 "_law_lines" ["_law_rows"] zba) (F__law_two:FnP P w K mg base 1 "_law_two" ["_law_word","_law_one","_law_other"] zd2) (F__law_meets:FnP P w K mg base 3 "_law_meets" ["_law_condition_here","_law_row"] (zb7 3)) (F__law_grouped:FnP P w K mg base 2 "_law_grouped" ["_law_numbers","_law_sums","_law_rows"] zcr) : ∀ n,FnOk P w K mg base CX0 (n+4) f fd ["_law_question_here","_law_tables"] (zbQ n)
 | 0=>FnOk.none fun _ _ _ _ ⟨_,_,_,_,_,_,_,_,_,_,h,_⟩=>absurd h (Nat.not_lt_zero _)
 | n + 1 => by
  have FW:FnP P w K mg base (n+4) "_law_plain" ["_law_question_here","_law_tables"] (zbQ n):=⟨f,fd,zcO F hm hk hb B F__law_lines F__law_two F__law_meets F__law_grouped n,hm,hk,hb⟩
  refine F.okJ (k:=n+4) zcN (fun vs H Q E h=>?_) (fun cdv A outer s H vs Q E hr h=>?_)
  ·obtain ⟨_,_,_,_,_,_,rfl,_⟩:=h
   rfl
  ·obtain ⟨v,d,q,W,T,N,rfl,hq,ok,tb,dp,td,k⟩:=h
   have nd:=zcN.nd
   have nd2:(["_law_row","_law_question_here"] : List Str).Nodup:=by decide +kernel
   have ndi:(["_law_i","_law_row"] : List Str).Nodup:=by decide +kernel
   refine ⟨_,(zab (zar 2 nd (e_ix zag (e_v 0) e_i))
    (zab (s_if (zap o_eq (e_v 2) e_s) (zac (zaj (zhz hr (e_v 1) (e_ix zag (e_v 0) e_i)))) zaq)
    (zab (s_if (t_in (e_v 2) (zbC (ac e_s (ac e_s (ac e_s (a1 e_s)))))) (zac (zaj (e_fn F__law_lines hr (a1 (e_fn F__law_two hr (ac (e_v 2) (ac (e_fn FW hr (ac (e_ix zag (e_v 0) e_i) (a1 (e_v 1))) (Nat.le_refl _)) (a1 (e_fn FW hr (ac (e_ix zag (e_v 0) e_i) (a1 (e_v 1))) (Nat.le_refl _))))) (by lia))) (by lia)))) zaq)
    (zab (zar 3 nd (e_fn FW hr (ac (e_ix zag (e_v 0) (e_op zgE (e_cb zcd B.len PySem.boot_len (a1 (e_v 0))) e_i)) (a1 (e_v 1))) (Nat.le_refl _)))
    (zab (s_if (zap o_eq (e_v 2) e_s) (zac (zaj (zaP (Nc:=["_law_row","_law_question_here"]) (js:=[none,some 0]) (g:=(zas 0)) (tt:=(tB (zbp (zb7 3) [] E0 (zaf (tOp (rIxT K) (tVar 1) (tC (.int 1))) (zaf (tVar 0) tNil))))) (te:=(tVar 0))
    (zat rfl rfl rfl rfl (fun x c h=>by simp at h;rcases h with ⟨rfl,rfl⟩<;>rfl) rfl rfl rfl) (zaz (e_v 3))
    (fun pins C s3 H3 fp=>⟨(g_n 0 nd2),.inr ⟨_,rfl,(zgz (e_fn F__law_meets hr (ac (e_ix zag (e_v 1) e_i) (a1 (e_v 0))) (by lia)))⟩,(e_v 0)⟩)))) zaq)
    (zab (s_if (zap o_eq (e_v 2) e_s) (zac (zaj (e_fn F__law_lines hr (a1c (zhm (x0 := "_law_row") (Nc:=["_law_row","_law_question_here"]) (js:=[none,some 0]) (g:=(zas 0)) (tt:=tYes) (te:=(tCB (fun xs H Q=>∃ p ys,xs=[.ref p]/\((SqL K H p ys/\∀ l,H l=none->Q (.ref l) (upd H l (.tup ys)))\/(SqT K H p ys/\Q (.ref p) H))) (zaf (zd3 [none,some 0] (zhg K (tOp (rIxT K) (tVar 1) (tC (.int 1)))) (zas 0) tYes (tOp (rIxT K) (tVar 1) (tVar 0))) tNil)))
    (zfE rfl rfl (fun _ _=>rfl) (fun _=>rfl) rfl (fun x c h=>by (obtain ⟨rfl,rfl⟩ : x=_/\c=_:=(by simpa using h));rfl) rfl rfl rfl) (zaz (e_v 3))
    (fun pins C s3 H3 fp=>⟨(g_n 0 nd2),.inl ⟨rfl,rfl⟩,(e_ct zcE B.tuple PyProof.Rows.boot_tuple (a1c (zaP (Nc:=["_law_i","_law_row"]) (js:=[none,some 0]) (g:=(zas 0)) (tt:=tYes) (te:=(tOp (rIxT K) (tVar 1) (tVar 0)))
    (zat rfl rfl rfl rfl (fun x c h=>by (obtain ⟨rfl,rfl⟩ : x=_/\c=_:=(by simpa using h));rfl) rfl rfl rfl) (zaz (e_ix zag (e_v 1) e_i))
    (fun pins C s3 H3 fp=>⟨(g_n 0 ndi),.inl ⟨rfl,rfl⟩,(e_ix zag (e_v 1) (e_v 0))⟩))))⟩))) (by lia)))) zaq)
    (zac (zaj (e_fn F__law_lines hr (a1 (e_fn F__law_grouped hr (ac (e_ix zag (e_v 0) e_i) (ac (e_ix zag (e_v 0) e_i) (a1 (e_v 3)))) (by lia))) (by lia)))))))))),?_⟩
   cases q with
   | table z =>
    obtain ⟨t,rfl,ht⟩:=hq
    obtain ⟨u,hg,l,xs,rfl,hl,pr⟩:=td.tb z ok
    refine ⟨_,rfl,ixTc ht rfl ?_⟩
    refine ⟨_,rfl,rfl,_,rfl,zaF ?_⟩
    exact ⟨_,rfl,_,rfl,ixTc ht rfl ⟨d,_,rfl,hg,k l H xs _ (Same.refl H) hl pr rfl⟩⟩
   | two o a b =>
    obtain ⟨t,va,vb,rfl,ht,ha,hb'⟩:=hq
    have oka:=ok.1
    have okb:=ok.2.1
    have da:a.deep<n:=Nat.lt_of_lt_of_le (Nat.lt_succ_of_le (Nat.le_max_left a.deep b.deep)) (Nat.le_of_lt_succ dp)
    have db:b.deep<n:=Nat.lt_of_lt_of_le (Nat.lt_succ_of_le (Nat.le_max_right a.deep b.deep)) (Nat.le_of_lt_succ dp)
    have e1:o.nm ≠ "table" := by cases o<;>decide +kernel
    have e2:("join" == o.nm || "union" == o.nm || "common" == o.nm || "less" == o.nm)=true:=by cases o<;>decide +kernel
    refine ⟨_,rfl,ixTc ht rfl ?_⟩
    refine ⟨_,rfl,rfl,_,rfl,iteSF e1 ?_⟩
    refine in4L (x:=o.nm) rfl (fun _ H1 s1=>?_) (fun e=>by rw [e2] at e;cases e)
    refine ⟨_,rfl,_,rfl,ixTc (s1 _ _ ht) rfl ⟨_,rfl,va,d,a,W,T,N,rfl,ha.same s1,oka,tb,da,td.same s1,fun p2 H2 xs ra s2 h2 pr an=>?_⟩⟩
    have s12:=s1.trans s2
    refine ⟨_,rfl,ixTc (s12 _ _ ht) rfl ⟨_,rfl,vb,d,b,W,T,N,rfl,hb'.same s12,okb,tb,db,td.same s12,fun p3 H3 ys rb s3 h3 pt bn=>?_⟩⟩
    obtain ⟨g1,g2,g3⟩:=an.good tb oka
    obtain ⟨h1,h2',h3'⟩:=bn.good tb okb
    have na:∀ r∈ra,r≠[]/\r.length<=50:=fun r hr'=>by
     have e:=g2 r hr';have o:=oka.pos tb
     exact ⟨fun z=>by rw [z] at e;simp at e;lia,by lia⟩
    have nb:∀ r∈rb,r≠[]/\r.length<=50:=fun r hr'=>by
     have e:=h2' r hr';have o:=okb.pos tb
     exact ⟨fun z=>by rw [z] at e;simp at e;lia,by lia⟩
    have la:ra.length<=60:=by obtain ⟨_,_,_,_,m⟩:=ok;cases o<;>(have:=m;simp only at this;lia)
    have lb:rb.length<=60:=by obtain ⟨_,_,_,_,m⟩:=ok;cases o<;>(have:=m;simp only at this;lia)
    have lj:o=.join->ra.length<=20/\rb.length<=20:=fun e=>by subst e;obtain ⟨_,_,_,_,m⟩:=ok;exact ⟨Nat.le_trans g1 m.1,Nat.le_trans h1 m.2⟩
    refine ⟨o,p2,p3,xs,ys,ra,rb,rfl,s3 _ _ h2,h3,rS s3 pr,pt,na,nb,la,lb,lj,fun p4 H4 zs s4 h4 pz=>?_⟩
    have s14:=s12.trans (s3.trans s4)
    have rw4:∀ r∈raw o ra rb,r≠[]:=fun r hr'=>by
     cases o with
     | join=>obtain ⟨x,hx,y,hy,e⟩:=zgp.mp hr';rw [e];intro z;exact (na x hx).1 (List.append_eq_nil_iff.mp z).1
     | union=>rcases List.mem_append.mp hr' with z | z;exact (na r z).1;exact (nb r z).1
     | common=>exact (na r (List.mem_filter.mp hr').1).1
     | less=>exact (na r (List.mem_filter.mp hr').1).1
    have rwl:(raw o ra rb).length<=900:=by
     cases o with
     | join =>
      show (zck ra rb).length<=900
      rw [zc7]
      exact Nat.le_trans (Nat.mul_le_mul (lj rfl).1 (lj rfl).2) (by decide)
     | union=>show (ra++rb).length<=900;rw [List.length_append];lia
     | common=>exact Nat.le_trans (List.length_filter_le _ _) (by lia)
     | less=>exact Nat.le_trans (List.length_filter_le _ _) (by lia)
    refine ⟨p4,zs,raw o ra rb,rfl,h4,pz,.inl rw4,rwl,fun p5 H5 us ls s5 _ h5 pu L=>?_⟩
    refine k p5 H5 us ls (s14.trans s5) h5 pu ⟨ra,rb,an,bn,?_⟩
    cases o with
    | join=>exact L.self (h3'.prod g3 g2)
    | union=>exact L
    | common=>exact L
    | less=>exact L
   | pick cd q =>
    obtain ⟨t,vc,vq,rfl,ht,hc,hq'⟩:=hq
    refine ⟨_,rfl,ixTc ht rfl ?_⟩
    walk_at "f"
    refine in4L (x := "pick") rfl (fun e=>absurd e (by decide +kernel)) (fun _ H1 s1=>?_)
    refine ⟨_,rfl,_,rfl,t,_,rfl,.inr (SqT.of (s1 _ _ ht)),_,_,rfl,rfl,t,_,2,_,rfl,rfl,SqT.of (s1 _ _ ht),rfl,_,rfl,vq,d,q,W,T,N,rfl,hq'.same s1,ok.2.2.2,tb,Nat.lt_of_succ_lt_succ dp,td.same s1,fun l H2 xs r0 s2 hl pr A0=>?_⟩
    have s12:=s1.trans s2
    obtain ⟨g1,g2,g3⟩:=A0.good tb ok.2.2.2
    have lm:=ok.2.2.1
    have lx:xs.length=r0.length:=Paired.length pr
    refine ⟨_,rfl,rfl,_,rfl,zaF ?_⟩
    exact ⟨_,rfl,l,rfl,⟨_,SqL.of hl⟩,fun D hD=>zcb (f:=cd.sem) hD hl pr (by lia) (fun H1 v r R s1 h hrm hR=>⟨_,rfl,ixTc (s1 _ _ (s12 _ _ ht)) rfl ⟨_,rfl,vc,_,cd,r,rfl,(hc.same s12).same s1,h,by rw [g2 r hrm];exact ok.1,Nat.lt_succ_of_le ok.2.1,_,rfl,hR H1 (Same.refl H1)⟩⟩) fun H' us s' h' pu=>k D H' us _ (s12.trans s') h' pu ⟨r0,A0,rfl⟩⟩
   | columns cs q =>
    obtain ⟨t,c,vq,rfl,ht,hc,hq'⟩:=hq
    obtain ⟨o1,o2,o3,o4,o5⟩:=ok
    refine ⟨_,rfl,ixTc ht rfl ?_⟩
    walk_at "f"
    refine in4L (x := "columns") rfl (fun e=>absurd e (by decide +kernel)) (fun _ H1 s1=>?_)
    refine ⟨_,rfl,_,rfl,t,_,rfl,.inr (SqT.of (s1 _ _ ht)),_,_,rfl,rfl,t,_,2,_,rfl,rfl,SqT.of (s1 _ _ ht),rfl,_,rfl,vq,d,q,W,T,N,rfl,hq'.same s1,o5,tb,Nat.lt_of_succ_lt_succ dp,td.same s1,fun l H2 xs r0 s2 hl pr A0=>?_⟩
    have s12:=s1.trans s2
    obtain ⟨g1,g2,g3⟩:=A0.good tb o5
    have lx:xs.length=r0.length:=Paired.length pr
    walk_at "f"
    refine ⟨_,rfl,rfl,_,rfl,zaF ?_⟩
    refine ⟨_,rfl,l,rfl,⟨_,SqL.of hl⟩,fun D hD=>?_⟩
    refine zdT (f:=pick cs) hD hl pr (by lia) (fun H1 v r R s1 ⟨u,e,hu⟩ hrm kk=>?_) fun H4 us sm h4 pu=>?_
    ·subst e
     have s14:=s12.trans s1
     exact ⟨_,rfl,ixTc (s14 _ _ ht) rfl ⟨c,rfl,⟨_,SqL.of (s14 _ _ hc)⟩,fun D2 hD2=>zet (row:=r) hD2 (s14 _ _ hc) hu (fun i hi=>by rw [g2 r hrm];exact o1 i hi) (by lia) fun H5 s5 h5=>⟨D2,_,rfl,.inl ⟨SqL.of h5,fun v hv=>kk v _ (s5.trans ((Same.refl H5).upd hv)) zaa⟩⟩⟩⟩
    ·refine ⟨D,us,r0.map (pick cs),rfl,h4,pu,.inl fun x hx z=>?_,by rw [List.length_map];lia,fun p5 H5 us' ls s5 _ h5 pu' L=>k p5 H5 us' ls (s12.trans (sm.trans s5)) h5 pu' ⟨r0,A0,L⟩⟩
     obtain ⟨r,_,e⟩:=List.mem_map.mp hx
     rw [z] at e
     have:=congrArg List.length e
     rw [zaW] at this
     exact o2 (List.length_eq_zero_iff.mp this)
   | group cs ag q =>
    obtain ⟨t,c,m,ms,vq,rfl,ht,hc,hm',pm,hq'⟩:=hq
    obtain ⟨o1,o2,o3,o4,o5,o6,o7⟩:=ok
    refine ⟨_,rfl,ixTc ht rfl ?_⟩
    walk_at "f"
    refine in4L (x := "group") rfl (fun e=>absurd e (by decide +kernel)) (fun _ H1 s1=>?_)
    refine ⟨_,rfl,_,rfl,t,_,rfl,.inr (SqT.of (s1 _ _ ht)),_,_,rfl,rfl,t,_,3,_,rfl,rfl,SqT.of (s1 _ _ ht),rfl,_,rfl,vq,d,q,W,T,N,rfl,hq'.same s1,o7,tb,Nat.lt_of_succ_lt_succ dp,td.same s1,fun l H2 xs r0 s2 hl pr A0=>?_⟩
    have s12:=s1.trans s2
    obtain ⟨g1,g2,g3⟩:=A0.good tb o7
    walk_at "f"
    walk_at "f"
    refine ⟨_,rfl,ixTc (s12 _ _ ht) rfl ⟨_,rfl,ixTc (s12 _ _ ht) rfl ⟨_,rfl,?_⟩⟩⟩
    refine ⟨c,m,l,ms,xs,cs,ag,r0,q.w W,rfl,s12 _ _ hc,s12 _ _ hm',Paired.mapP pm fun _ _ z=>z.same s12,hl,pr,g2,o1,o2,by lia,by lia,by lia,fun e H3 zs out keys s3 he h3 pz G=>?_⟩
    refine ⟨e,zs,out,rfl,h3,pz,.inl fun x hx z=>?_,Nat.le_trans G.few (by lia),fun p5 H5 us' ls s5 _ h5 pu' L=>k p5 H5 us' ls (s12.trans (s3.trans s5)) h5 pu' ⟨r0,keys,A0,by rw [L.self G.srt];exact G⟩⟩
    have:=G.wid x hx
    rw [z] at this
    simp at this
    lia
end
section
variable {P:Program}{w:World}{K:PySem.W.Frag}{mg:Str->Option Value}{base:Heap}
def zbS:Sp:=fun vs H Q _=>∃ (a b:Addr) (xs ys:List V) (rs:List (List Int)),vs=[.ref a,.ref b]/\H a=some (.lst xs)/\H b=some (.lst ys)/\Paired (RowAt H) xs rs/\Paired (RowAt H) ys rs/\(∀ r∈rs,r.length<=50)/\rs.length<=900/\∀ H',Same H H'->Q (.bl true) H'
theorem zb1:FnScope ["_law_found","_law_due","_law_row"] ["_law_found","_law_due"] (zad zbT):=by walk_at "sc"
theorem zdK {f:Addr}{fd:FuncData}(F:Fun K "_law_is_lines" "_law_is_lines" zbT f fd)(B:Blts mg)(F__law_whole:FnP P w K mg base 1 "_law_whole" ["_law_found"] zbb) : FnOk P w K mg base CX0 2 f fd ["_law_found","_law_due"] zbS:=by
 refine F.okJ zb1 (fun vs H Q E h=>?_) (fun cdv A outer s H vs Q E hr h=>?_)
 ·obtain ⟨_,_,_,_,_,rfl,_⟩:=h
  rfl
 ·obtain ⟨a,b,xs,ys,rs,rfl,ha,hb,pr,pt,w50,l9,k⟩:=h
  have nd:=zb1.nd
  have nd1:(["_law_cell"] : List Str).Nodup:=by decide +kernel
  refine ⟨_,(zab (s_if (JW.jt (w_or (zio (zgz (e_cb zkC B.isinstance PyProof.Rows.boot_isinstance (ac (e_v 0) (a1 (e_ty B.list PyProof.Rows.boot_list)))))) (zeP (zap o_ne (e_cb zcd B.len PySem.boot_len (a1 (e_v 0))) (e_cb zcd B.len PySem.boot_len (a1 (e_v 1))))))) (zac (zaj e_b)) zaq)
   (zab (zdI (zaz (e_v 0)) (g_n 2 nd)
    (zac (s_if (JW.jt (w_or (zio (zgz (e_cb zkC B.isinstance PyProof.Rows.boot_isinstance (ac (e_v 2) (a1 (e_ty B.tuple PyProof.Rows.boot_tuple)))))) (zeP (zio (zgz (e_cb zop B.all PyProof.Rows.boot_all (a1c (zaP (Nc:=["_law_cell"]) (js:=[none]) (g:=(zas 0)) (tt:=tYes) (te:=(zbp zbb [] E0 (zaf (tVar 0) tNil)))
   (zat rfl rfl rfl rfl (fun x c h=>by cases h) rfl rfl rfl) (zoa (e_v 2))
   (fun pins C s3 H3 fp=>⟨(g_n 0 nd1),.inl ⟨rfl,rfl⟩,(e_fn F__law_whole hr (a1 (e_v 0)))⟩))))))))) (zac (zaj e_b)) zaq)))
   (zac (zaj (zfN (zmK hr) (e_v 0) (e_v 1)))))),?_⟩
  have lx:xs.length=rs.length:=Paired.length pr
  have ly:ys.length=rs.length:=Paired.length pt
  refine ⟨_,rfl,_,_,_,_,rfl,.lst ha,zfG K "list", _,rfl,iteF ?_⟩
  refine ⟨_,rfl,a,xs,rfl,.inl (SqL.of ha),_,rfl,b,ys,rfl,.inl (SqL.of hb),rfl,_,rfl,zmJ (by rw [lx,ly]) ?_⟩
  refine ⟨_,rfl,a,rfl,⟨xs,SqL.of ha⟩,zbl (K:=K) (a:=a) (xs:=xs) (fun i σ H'=>∃ o2,σ=[some (.ref a),some (.ref b),o2]/\Same H H') ⟨none,rfl,Same.refl H⟩ (fun i σ H' _ ⟨_,_,sm⟩=>SqL.of (sm _ _ ha)) ?_ ?_⟩
  ·rintro i x σ H' hx ⟨o2,rfl,sm'⟩
   obtain ⟨r,hr1,p,rfl,hp⟩:=zan pr hx
   have hp':=sm' _ _ hp
   have wr:=w50 r (gM hr1)
   refine ⟨_,rfl,_,_,_,_,rfl,.tup hp',zfG K "tuple", _,rfl,iteF ?_⟩
   refine ⟨_,rfl,p,rfl,⟨_,SqT.of hp'⟩,fun D hD=>?_⟩
   refine zk9 (K:=K) (a:=p) (xs:=r.map V.int) (fun j σ H4=>∃ (o0:Option V),σ=[o0]/\Same H' H4/\H4 D=some (.lst ((List.replicate j true).map V.bl)))
    ⟨none,rfl,(Same.refl H').upd hD,zaa⟩ (fun j σ H4 _ ⟨_,_,sm4,_⟩=>SqT.of (sm4 _ _ hp')) ?_ ?_
   ·rintro j y σ H4 hy ⟨o0,rfl,sm4,h4⟩
    obtain ⟨c,rfl⟩:=zmU hy
    have hj:=gE hy
    rw [List.length_map] at hj
    exact ⟨_,rfl,c,rfl,_,h4,zah (by rw [List.length_map,List.length_replicate];lia),_,rfl,sm4.upd hD,by rw [zaa,List.replicate_succ',List.map_append];rfl⟩
   ·rintro σ H4 ⟨o0,rfl,sm4,h4⟩
    refine ⟨D,_,rfl,SqL.of h4,_,rfl,?_⟩
    rw [show (List.replicate (r.map V.int).length true).all id=true from by simp]
    exact iteF ⟨_,rfl,sm'.trans sm4⟩
  ·rintro σ H' ⟨o2,rfl,sm'⟩
   have d1:Den K H' (.ref a) (.list (rs.map dRow)):=.lst (SqL.of (sm' _ _ ha)) (zdh (Paired.mapP pr fun _ _ z=>RowAt.same sm' z))
   have d2:Den K H' (.ref b) (.list (rs.map dRow)):=.lst (SqL.of (sm' _ _ hb)) (zdh (Paired.mapP pt fun _ _ z=>RowAt.same sm' z))
   refine ⟨_,rfl,_,rfl,_,_,d1,d2,zbK _,zbK _,?_⟩
   rw [zgf,decide_eq_true rfl]
   exact k H' sm'
end
end Prf
namespace L2
open PySem PySem.Spec PyProof.Rows
section
variable {X:Cx}{o i value:Expr}{td ty tv:TE}{pos pos':Pos}{k:Nat}
theorem zhi:JE X (.Dict [] [] pos) zlz:=⟨zkk⟩
theorem ziV (hr:Room k X.A)(ho:JE X o td)(hi:JE X i ty)(hv:JE X value tv)(hs:swapsWith value (some (.Subscript o i pos')) pos.line X.env=pure false:=by rfl) : JS X (.Assign [.Subscript o i pos'] value pos) (zmZ td ty tv) :=
 ⟨zmg (by have:=hr.units;omega) ho.h hi.h hv.h hs⟩
theorem znu {a b c:Expr}{ta tb tc:TE}{p2:Pos}(ha:JE X a ta)(hb:JE X b tb)(hc:JE X c tc) : JE X (.Subscript a (.Slice (some b) (some c) none p2) pos) (tSl (rSlL X.K) ta (zf7 tb) (zf7 tc)):=⟨zdU zjZ ha.h (zee hb.h) (zee hc.h)⟩
theorem zlX (xs:List V)(a m:Nat) : (cutV xs (some (a:Int)) (some ((a:Int)+(m:Int)))).length<=m:=by
 unfold cutV
 rw [List.length_take,List.length_drop]
 have e1:HT.sIx xs.length 0 (some (a:Int))=min a xs.length:=by
  exact HT.sIx_nat _ _ _
 have e2:HT.sIx xs.length xs.length (some ((a:Int)+(m:Int)))=min (a+m) xs.length:=by
  rw [show ((a:Int)+(m:Int))=((a+m:Nat) : Int) by omega]
  exact HT.sIx_nat _ _ _
 rw [e1,e2]
 omega
end
end L2
namespace Prf
open PySem L2 Wr
structure Off (H H':Hp) : Prop where
 t:∀ b xs,H b=some (.tup xs)->H' b=some (.tup xs)
 l:∀ b xs,H b=some (.lst xs)->H' b=some (.lst xs)
theorem Off.wr {H:Hp}{d:Addr}{o:HO}(ht:∀ xs,H d≠some (.tup xs))(hl:∀ xs,H d≠some (.lst xs)) : Off H (upd H d o) :=
 ⟨fun b xs h=>by rw [zam (b:=b) (fun z=>ht xs (by rw [<- z];exact h))];exact h,fun b xs h=>by rw [zam (b:=b) (fun z=>hl xs (by rw [<- z];exact h))];exact h⟩
theorem Off.of {H H':Hp}(s:Same H H') : Off H H':=⟨fun b xs h=>s _ _ h,fun b xs h=>s _ _ h⟩
theorem Off.trans {H H' H'':Hp}(a:Off H H')(b:Off H' H'') : Off H H'':=⟨fun c xs h=>b.t c xs (a.t c xs h),fun c xs h=>b.l c xs (a.l c xs h)⟩
theorem Off.row {H H':Hp}(o:Off H H'){v:V}{r:List Int}(h:RowAt H v r) : RowAt H' v r:=let ⟨c,a,b⟩:=h;⟨c,a,o.t _ _ b⟩
theorem Off.rows {H H':Hp}(o:Off H H'){v:V}{rs:List (List Int)}(h:RowsAt H v rs) : RowsAt H' v rs:=let ⟨l,xs,a,b,c⟩:=h;⟨l,xs,a,o.l _ _ b,Paired.mapP c fun _ _ z=>o.row z⟩
theorem Off.cond {H H':Hp}(o:Off H H'){c:Cond}{v:V}(h:CondAt H v c) : CondAt H' v c:=by
 induction c generalizing v with
 | same i j=>obtain ⟨t,a,b⟩:=h;exact ⟨t,a,o.t _ _ b⟩
 | isv i j=>obtain ⟨t,a,b⟩:=h;exact ⟨t,a,o.t _ _ b⟩
 | less i j=>obtain ⟨t,a,b⟩:=h;exact ⟨t,a,o.t _ _ b⟩
 | undr i j=>obtain ⟨t,a,b⟩:=h;exact ⟨t,a,o.t _ _ b⟩
 | both a b i1 i2=>obtain ⟨t,va,vb,e,h1,h2,h3⟩:=h;exact ⟨t,va,vb,e,o.t _ _ h1,i1 h2,i2 h3⟩
 | either a b i1 i2=>obtain ⟨t,va,vb,e,h1,h2,h3⟩:=h;exact ⟨t,va,vb,e,o.t _ _ h1,i1 h2,i2 h3⟩
 | neg a i1=>obtain ⟨t,va,e,h1,h2⟩:=h;exact ⟨t,va,e,o.t _ _ h1,i1 h2⟩
theorem Off.sum {H H':Hp}(o:Off H H'){a:Sm}{v:V}(h:SmAt H v a) : SmAt H' v a:=by
 cases a<;>(obtain ⟨t,h1,h2⟩:=h;exact ⟨t,h1,o.t _ _ h2⟩)
theorem Off.q {H H':Hp}(o:Off H H'){q:Qn}{v:V}(h:QAt H v q) : QAt H' v q:=by
 induction q generalizing v with
 | table z=>obtain ⟨t,a,b⟩:=h;exact ⟨t,a,o.t _ _ b⟩
 | pick c q ih=>obtain ⟨t,vc,vq,e,h1,h2,h3⟩:=h;exact ⟨t,vc,vq,e,o.t _ _ h1,o.cond h2,ih h3⟩
 | columns cs q ih=>obtain ⟨t,l,vq,e,h1,h2,h3⟩:=h;exact ⟨t,l,vq,e,o.t _ _ h1,o.l _ _ h2,ih h3⟩
 | group cs ag q ih=>obtain ⟨t,l,m,ms,vq,e,h1,h2,h3,h4,h5⟩:=h;exact ⟨t,l,m,ms,vq,e,o.t _ _ h1,o.l _ _ h2,o.l _ _ h3,Paired.mapP h4 fun _ _ z=>o.sum z,ih h5⟩
 | two op a b i1 i2=>obtain ⟨t,va,vb,e,h1,h2,h3⟩:=h;exact ⟨t,va,vb,e,o.t _ _ h1,i1 h2,i2 h3⟩
def Kt (H:Hp)(T:Str->List (List Int))(p:Key×V)(z:Str) : Prop:=p.1=Sum.inr z/\RowsAt H p.2 (T z)
theorem zlr {H:Hp}{T:Str->List (List Int)}{kt:List (Key×V)}{N:List Str}(p:Paired (Kt H T) kt N)(nd:N.Nodup) : ∀ z∈N,∃ v,valV kt (Sum.inr z)=some v/\RowsAt H v (T z):=by
 induction p with
 | nil=>intro z h;cases h
 | @cons x y kt N r p ih =>
  intro z hz
  obtain ⟨n1,n2⟩:=List.nodup_cons.mp nd
  by_cases e:y=z
  ·subst e
   exact ⟨x.2,zcp r.1,r.2⟩
  ·obtain ⟨v,h1,h2⟩:=ih n2 z ((List.mem_cons.mp hz).resolve_left (Ne.symm e))
   exact ⟨v,by rw [zbc (fun y'=>e (Sum.inr.inj (r.1.symm.trans y')))];exact h1,h2⟩
theorem ziP {H:Hp}{T:Str->List (List Int)}{kt:List (Key×V)}{N:List Str}(p:Paired (Kt H T) kt N){z:Str}(h:z∉N) : valV kt (Sum.inr z)=none:=by
 induction p with
 | nil=>rfl
 | @cons x y kt N r p ih =>
  rw [zbc (fun y'=>h (List.mem_cons.mpr (.inl (Sum.inr.inj (r.1.symm.trans y')).symm)))]
  exact ih fun y'=>h (List.mem_cons_of_mem _ y')
theorem zkf {H:Hp}{T:Str->List (List Int)}{kt:List (Key×V)}{N:List Str}(p:Paired (Kt H T) kt N) : kt.map (·.1)=N.map Sum.inr:=by
 induction p with
 | nil=>rfl
 | cons r _ ih=>rw [List.map_cons,List.map_cons,ih,r.1]
section
variable {P:Program}{w:World}{K:PySem.W.Frag}{mg:Str->Option Value}{base:Heap}
theorem RowsAt.den {H:Hp}{v:V}{rs:List (List Int)}(h:RowsAt H v rs) : Den K H v (.list (rs.map dRow)):=by
 obtain ⟨l,xs,rfl,a,b⟩:=h
 exact .lst (SqL.of a) (zdh b)
def zcL:Sp:=fun vs H Q _=>∃ (v:V) (q:Qn) (dw dt:Addr) (kw kt:List (Key×V)) (W:Str->Nat) (T:Str->List (List Int)) (N:List Str),vs=[v,.int (q.w W:Nat),.ref dw,.ref dt]/\QAt H v q/\q.ok W N/\Tbs W T N/\q.deep<8/\q.most<=900/\Rd H dw (.dK kw)/\(∀ z∈N,valV kw (Sum.inr z)=some (.int (W z:Nat)))/\H dt=some (.dK kt)/\dw≠dt/\Paired (Kt H T) kt N/\N.Nodup/\N.length<=10 /\
 ∀ H',(∀ b o,b≠dt->H b=some o->H' b=some o)->Q (.bl true) H'
theorem zdc:FnScope ["_law_question_here","_law_size","_law_widths","_law_tables","_law_handed","_law_name","_law_rows","_law_found","_law_told"] ["_law_question_here","_law_size","_law_widths","_law_tables"] (zad zdi):=by walk_at "sc"
theorem zfg {f:Addr}{fd:FuncData}(F:Fun K "_law_right" "_law_right" zdi f fd)(B:Blts mg)(F_width:FnP P w K mg base 14 "width" ["question","widths"] (zdX 8))(F_plain:FnP P w K mg base 13 "plain" ["question","tables"] (zdV 8))(F__law_whole:FnP P w K mg base 1 "_law_whole" ["_law_found"] zbb)
  (F__law_is_lines:FnP P w K mg base 2 "_law_is_lines" ["_law_found","_law_due"] zbS) (F__law_plain:FnP P w K mg base 12 "_law_plain" ["_law_question_here","_law_tables"] (zbQ 8)) : FnOk P w K mg base CX0 15 f fd ["_law_question_here","_law_size","_law_widths","_law_tables"] zcL:=by
 refine F.okJ zdc (fun vs H Q E h=>?_) (fun cdv A outer s H vs Q E hr h=>?_)
 ·obtain ⟨_,_,_,_,_,_,_,_,_,rfl,_⟩:=h
  rfl
 ·obtain ⟨v,q,dw,dt,kw,kt,W,T,N,rfl,hq,ok,tb,dp,mo,hw,vw,ht,nwt,pk,ndN,l10,k⟩:=h
  have nd:=zdc.nd
  refine ⟨_,(zab (zhT 4 nd zhi)
   (zab (zdI (zkj (e_v 3)) (zjC (zbs (g_n 5 nd) (zbs (g_n 6 nd) zge)))
    (zac (ziV hr (e_v 4) (e_v 5) (e_ct zjN B.list PyProof.Rows.boot_list (a1 (e_v 6))))))
   (zab (zar 7 nd (e_fn F_width hr (ac (e_v 0) (a1 (e_ct zmj B.dict PyProof.Rows.boot_dict (a1 (e_v 2)))))))
   (zab (s_if (JW.jt (w_or (zio (zgz (e_fn F__law_whole hr (a1 (e_v 7))))) (zeP (zap o_ne (e_v 7) (e_v 1))))) (zac (zaj e_b)) zaq)
   (zab (zar 8 nd (e_fn F_plain hr (ac (e_v 0) (a1 (e_v 4)))))
   (zab (s_if (zio (zgz (e_fn F__law_is_lines hr (ac (e_v 8) (a1 (e_fn F__law_plain hr (ac (e_v 0) (a1 (e_v 3))))))))) (zac (zaj e_b)) zaq)
   (zab (ziy (e_v 8) e_n)
   (zac (zaj (zfN (znw hr) (e_v 4) (e_v 3))))))))))),?_⟩
  have lk:kt.length=N.length:=Paired.length pk
  refine fun dh hdh=>?_
  obtain ⟨H0,e,s0,u0⟩:=fresh (.dK []) hdh;rw [e];clear e
  have ht0:=s0 _ _ ht
  have nht:dh≠dt:=fun z=>by rw [z,ht] at hdh;cases hdh
  refine ⟨_,rfl,dt,kt,rfl,ht0,fun ob=>?_⟩
  have f1:Off H0 (upd H0 dt (.frz ob (.dK kt))):=Off.wr (fun xs z=>by rw [ht0] at z;cases z) (fun xs z=>by rw [ht0] at z;cases z)
  have k1:∀ b o,b≠dt->H b=some o->upd H0 dt (.frz ob (.dK kt)) b=some o:=fun b o hb e=>by rw [zam hb];exact s0 _ _ e
  have u1:upd H0 dt (.frz ob (.dK kt)) dt=some (.frz ob (.dK kt)):=zaa
  have v1:upd H0 dt (.frz ob (.dK kt)) dh=some (.dK []):=by rw [zam nht];exact u0
  generalize upd H0 dt (.frz ob (.dK kt))=H1 at f1 k1 u1 v1 ⊢
  have f1:Off H H1:=(Off.of s0).trans f1
  refine ziN (Pv:=fun i σ H'=>∃ (o5 o6:Option V) (kh:List (Key×V)),σ=[some v,some (.int (q.w W:Nat)),some (.ref dw),some (.ref dt),some (.ref dh),o5,o6,none,none]/\Off H H'/\(∀ b o,b≠dt->H b=some o->H' b=some o)/\H' dt=some (.frz ob (.dK kt))/\H' dh=some (.dK kh)/\Paired (Kt H' T) kh (N.take i))
   ⟨none,none,[],rfl,f1,k1,u1,v1,.nil⟩ (fun i σ H' _ ⟨_,_,_,_,_,_,e,_⟩=>e) ?_ ?_
  ·rintro i p t σ H2 hp ⟨o5,o6,kh,rfl,f2,k2,t2,h2,p2⟩ hT
   obtain ⟨z,hz,e1,l,xs,e2,hl,pr⟩:=zan pk hp
   obtain ⟨p1,pv⟩:=p
   have e1:p1=Sum.inr z:=e1
   have e2:pv=.ref l:=e2
   subst e1 e2
   have hi:=gE hz
   have s3:Same H2 (upd H2 t (.tup [.str z,.ref l])):=(Same.refl H2).upd hT
   have u3:upd H2 t (.tup [.str z,.ref l]) t=some (.tup [.str z,.ref l]):=zaa
   show gTup K 2 _ _ _ (upd H2 t (.tup [.str z,.ref l])) _
   generalize upd H2 t (.tup [.str z,.ref l])=H3 at s3 u3 ⊢
   refine ⟨t,_,rfl,SqT.of u3,rfl,_,_,rfl,_,_,rfl,rfl,?_⟩
   have hl3:=s3 _ _ (f2.l _ _ hl)
   refine ⟨_,rfl,l,xs,rfl,.inl (SqL.of hl3),fun e he=>?_⟩
   obtain ⟨H4,e,s4,u4⟩:=fresh (.lst xs) he;rw [e];clear e
   have s24:=s3.trans s4
   have h4:=s24 _ _ h2
   have lh:kh.length<=10:=by rw [Paired.length p2,List.length_take];lia
   refine ⟨_,rfl,_,rfl,dh,_,rfl,DPut.k (k:=Sum.inr z) h4 (Nat.lt_of_le_of_lt lh (by decide)),?_⟩
   have zn:z∉N.take i:=fun y=>by
    obtain ⟨j,hj⟩:=List.getElem?_of_mem y
    have hj1:=gE hj
    rw [List.length_take] at hj1
    rw [List.getElem?_take_of_lt (by lia)] at hj
    have:=(List.getElem?_inj (by lia) ndN).mp (hj.trans hz.symm)
    lia
   rw [zdR _ (ziP p2 zn)]
   have f4:Off H4 (upd H4 dh (.dK (kh++[(Sum.inr z,.ref e)]))):=Off.wr (fun xs y=>by rw [h4] at y;cases y) (fun xs y=>by rw [h4] at y;cases y)
   refine ⟨_,_,kh++[(Sum.inr z,.ref e)],rfl,(f2.trans (Off.of s24)).trans f4,fun b o hb e'=>?_,?_,zaa,?_⟩
   ·rw [zam (fun y=>by rw [y,hdh] at e';cases e')]
    exact s24 _ _ (k2 b o hb e')
   ·rw [zam nht.symm];exact s24 _ _ t2
   ·rw [take_snoc hz]
    exact zak (R:=Kt _ T) ⟨rfl,f4.rows ⟨e,xs,rfl,u4,Paired.mapP pr fun _ _ y=>(Off.of s24).row (f2.row y)⟩⟩ (Paired.mapP p2 fun _ _ y=>⟨y.1,f4.rows ((Off.of s24).rows y.2)⟩)
  ·rintro σ H2 ⟨o5,o6,kh,rfl,f2,k2,t2,h2,p2⟩
   rw [lk,List.take_length] at p2
   have hw2:Rd H2 dw (.dK kw):=by
    rcases hw with z | ⟨o,z⟩
    ·exact .inl (k2 _ _ nwt z)
    ·exact .inr ⟨o,k2 _ _ nwt z⟩
   refine ⟨_,rfl,_,rfl,dw,kw,rfl,hw2,fun dc hdc=>?_⟩
   obtain ⟨H3,e,s3,u3⟩:=fresh (.dK kw) hdc;rw [e];clear e
   have hq3:QAt H3 v q:=(f2.q hq).same s3
   refine ⟨v,dc,q,W,N,rfl,hq3,ok,dp,⟨fun z hz=>.inl ⟨kw,Sum.inr z,.inl u3,rfl,(vw z hz).symm⟩⟩,fun H4 s4=>?_⟩
   refine ⟨_,rfl,_,rfl,_,rfl,iteF ?_⟩
   refine ⟨_,rfl,_,rfl,rfl,_,rfl,zmJ rfl ?_⟩
   have s24:=s3.trans s4
   have th4:TabAt H4 dh T N:=⟨fun z hz=>let ⟨v,a,b⟩:=zlr p2 ndN z hz;⟨v,.inl ⟨kh,Sum.inr z,.inl (s24 _ _ h2),rfl,a.symm⟩,b.same s24⟩⟩
   refine ⟨_,rfl,_,rfl,v,dh,q,W,T,N,rfl,hq3.same s4,ok,tb,dp,th4,fun r H5 xs rs s5 hr' h5 pr an=>?_⟩
   have s25:=s24.trans s5
   have pt2:Paired (Kt H2 T) kt N:=Paired.mapP pk fun _ _ y=>⟨y.1,f2.rows y.2⟩
   have tt5:TabAt H5 dt T N:=⟨fun z hz=>let ⟨v,a,b⟩:=zlr pt2 ndN z hz;⟨v,.inl ⟨kt,Sum.inr z,.inr ⟨ob,s25 _ _ t2⟩,rfl,a.symm⟩,b.same s25⟩⟩
   refine ⟨_,rfl,_,rfl,_,rfl,v,dt,q,W,T,N,rfl,(hq3.same s4).same s5,ok,tb,dp,tt5,fun r2 H6 ys rs2 s6 h6 pr2 an2=>?_⟩
   have e:=Ans.uniq an2 an
   subst e
   obtain ⟨g1,g2,g3⟩:=an.good tb ok
   have wq:=ok.pos tb
   refine ⟨r,r2,xs,ys,rs2,rfl,s6 _ _ h5,h6,rS s6 pr,pr2,fun x hx=>by rw [g2 x hx];lia,by lia,fun H7 s7=>?_⟩
   refine ⟨_,rfl,iteF ?_⟩
   have s27:=s25.trans (s6.trans s7)
   have h7:=(s6.trans s7) _ _ h5
   have lxs:xs.length<=900:=by rw [Paired.length pr];lia
   refine ⟨_,rfl,.inl ⟨rfl,_,SqL.of h7⟩,r,xs,_,rfl,rfl,h7,zah (by lia),?_⟩
   have fr:∀ {u:V} {rs:List (List Int)},RowsAt H4 u rs->RowsAt (upd H7 r (.lst (xs++[.non]))) u rs:=fun {u rs} ⟨l,ys,a,b,c⟩=>by
    have s47:=s5.trans (s6.trans s7)
    have ntr:=zbW h7
    exact ⟨l,ys,a,by rw [zam (fun z=>by rw [z,hr'] at b;cases b)];exact s47 _ _ b,Paired.mapP c fun _ _ z=>zbf ntr (RowAt.same s47 z)⟩
   have rh:=s27 _ _ h2
   have rt:=s27 _ _ t2
   have nrh:dh≠r:=fun z=>by have:=s24 _ _ h2;rw [z,hr'] at this;cases this
   have nrt:dt≠r:=fun z=>by have:=s24 _ _ t2;rw [z,hr'] at this;cases this
   refine ⟨_,rfl,_,rfl,dh,dt,kh,kt,rfl,rfl,.inl (by rw [zam nrh];exact rh),.inr ⟨ob,by rw [zam nrt];exact rt⟩,by rw [zkf p2,zkf pk],fun i a b ha hb=>?_,?_⟩
   ·obtain ⟨z,hz,_,r1⟩:=zan p2 ha
    obtain ⟨z',hz',_,r2⟩:=zan pt2 hb
    rw [hz] at hz'
    cases hz'
    exact ⟨_,_,(fr (r1.same s24)).den,(fr (r2.same s24)).den,zbK _,zbK _,by have:=(zbG (T z)).2;show PyData.depthAll _+1<=10;lia,by rw [zgf,decide_eq_true rfl]⟩
   ·refine k _ fun b o hb e=>?_
    rw [zam (fun z=>by have:=s24 _ _ (k2 b o hb e);rw [z,hr'] at this;cases this)]
    exact s27 _ _ (k2 b o hb e)
end
section
variable {P:Program}{w:World}{K:PySem.W.Frag}{mg:Str->Option Value}{base:Heap}
theorem ix0 {α:Type}{xs:List α}{i:Nat}{v:α}(h:xs[i]?=some v) : atI xs (0+(i:Int))=some v:=by rw [Int.zero_add];exact za1 h
theorem zfW {ns:List Int}{lo hi:Option Int}{i:Nat}{y:V}(h:(cutV (ns.map V.int) lo hi)[i]?=some y) : ∃ c,y=V.int c:=by
 have:=List.mem_of_getElem? h
 unfold cutV at this
 obtain ⟨c,_,rfl⟩:=List.mem_map.mp (List.mem_of_mem_drop (List.mem_of_mem_take this))
 exact ⟨c,rfl⟩
def Kw (W:Str->Nat)(p:Key×V)(z:Str) : Prop:=p=(Sum.inr z,.int (W z:Nat))
theorem zm3 {W:Str->Nat}{kw:List (Key×V)}{N:List Str}(p:Paired (Kw W) kw N)(nd:N.Nodup) : ∀ z∈N,valV kw (Sum.inr z)=some (.int (W z:Nat)):=by
 induction p with
 | nil=>intro z h;cases h
 | @cons x y kw N r p ih =>
  intro z hz
  obtain ⟨n1,n2⟩:=List.nodup_cons.mp nd
  have r:x=(Sum.inr y,.int (W y:Nat)):=r
  subst r
  by_cases e:y=z
  ·subst e;exact zcp rfl
  ·rw [zbc (fun y'=>e (Sum.inr.inj y'))]
   exact ih n2 z ((List.mem_cons.mp hz).resolve_left (Ne.symm e))
theorem kw_none {W:Str->Nat}{kw:List (Key×V)}{N:List Str}(p:Paired (Kw W) kw N){z:Str}(h:z∉N) : valV kw (Sum.inr z)=none:=by
 induction p with
 | nil=>rfl
 | @cons x y kw N r p ih =>
  have r:x=(Sum.inr y,.int (W y:Nat)):=r
  subst r
  rw [zbc (fun y'=>h (List.mem_cons.mpr (.inl (Sum.inr.inj y').symm)))]
  exact ih fun y'=>h (List.mem_cons_of_mem _ y')
def putW (W:Str->Nat)(z:Str)(n:Nat) : Str->Nat:=fun x=>if x=z then n else W x
def putT (T:Str->List (List Int))(z:Str)(r:List (List Int)) : Str->List (List Int):=fun x=>if x=z then r else T x
theorem zd1 {W:Str->Nat}{z:Str}{n:Nat} : putW W z n z=n:=if_pos rfl
theorem zhe {W:Str->Nat}{z x:Str}{n:Nat}(h:x≠z) : putW W z n x=W x:=if_neg h
theorem zcS {T:Str->List (List Int)}{z:Str}{r:List (List Int)} : putT T z r z=r:=if_pos rfl
theorem zff {T:Str->List (List Int)}{z x:Str}{r:List (List Int)}(h:x≠z) : putT T z r x=T x:=if_neg h
theorem Tbs.put {W:Str->Nat}{T:Str->List (List Int)}{N:List Str}{z:Str}{n:Nat}{r:List (List Int)}(tb:Tbs W T N)(hz:z∉N)(h1:r.length<=5)(h2:∀ x∈r,x.length=n)(h3:1<=n/\n<=3)(h4:Srt r) : Tbs (putW W z n) (putT T z r) (N++[z]):=by
 have key:∀ {Pr:Str->Prop},(∀ x∈N,x≠z->Pr x)->Pr z->∀ x∈N++[z],Pr x:=fun {Pr} a b x hx=>by
  rcases List.mem_append.mp hx with y | y
  ·exact a x y fun e=>hz (e ▸ y)
  ·rw [List.mem_singleton.mp y];exact b
 refine ⟨key (fun x hx ne=>?_) ?_,key (fun x hx ne=>?_) ?_,key (fun x hx ne=>?_) ?_,key (fun x hx ne=>?_) ?_⟩
 ·rw [zff ne];exact tb.few x hx
 ·rw [zcS];exact h1
 ·rw [zff ne,zhe ne];exact tb.wid x hx
 ·rw [zcS,zd1];exact h2
 ·rw [zhe ne];exact tb.pos x hx
 ·rw [zd1];exact h3
 ·rw [zff ne];exact tb.srt x hx
 ·rw [zcS];exact h4
def zkG (K:PySem.W.Frag) : Sp:=fun vs H Q _=>∃ (a:Addr) (ns:List Int),vs=[.ref a]/\SqL K H a (ns.map V.int)/\ns.length<=63/\∀ H',Q (.bl true) H'
theorem zlp:FnScope ["_law_script","_law_cells","_law_at","_law_head","_law_names","_law_pool_here","_law_widths","_law_tables","_law_k","_law_size","_law_many","_law_rows","_law_cell","_law_some","_law_question_here"] ["_law_script"] (zad zlF):=by walk_at "sc"
theorem zmV {f:Addr}{fd:FuncData}(F:Fun K "law" "law" zlF f fd)(B:Blts mg)(F__law_words:FnP P w K mg base 2 "_law_words" ["_law_cell","_law_many"] zcT)(F__law_pool:FnP P w K mg base 2 "_law_pool" ["_law_cell"] zdF)(F__law_mixed:FnP P w K mg base 1 "_law_mixed" ["_law_cell","_law_k"] zal)(F__law_lines:FnP P w K mg base 1 "_law_lines" ["_law_rows"] zba)
  (F__law_question:FnP P w K mg base 7 "_law_question" ["_law_cell","_law_k","_law_deep","_law_tables","_law_pool_here"] (za5 4)) (F__law_right:FnP P w K mg base 15 "_law_right" ["_law_question_here","_law_size","_law_widths","_law_tables"] zcL) : FnOk P w K mg base CX0 16 f fd ["_law_script"] (zkG K):=by
 refine F.okJ zlp (fun vs H Q E h=>?_) (fun cdv A outer s H vs Q E hr h=>?_)
 ·obtain ⟨_,_,rfl,_⟩:=h
  rfl
 ·obtain ⟨a,ns,rfl,hS,h63,k⟩:=h
  have nd:=zlp.nd
  have nd3:(["_law_j","_law_pool_here","_law_cell"] : List Str).Nodup:=by decide +kernel
  have nd2:(["_law_name","_law_size"] : List Str).Nodup:=by decide +kernel
  refine ⟨_,(zab (zar 1 nd (e_op zkN (znX (e_v 0) e_i) (zbC (a1 e_i))))
   (zab (zar 2 nd e_i)
   (zab (zml (zap o_lt (e_v 2) (e_cb zcd B.len PySem.boot_len (a1 (e_v 1))))
    (zab (zar 3 nd (e_ix zaw (e_v 1) (e_v 2)))
    (zab (zar 4 nd (e_fn F__law_words hr (ac (e_v 3) (a1 e_i))))
    (zab (zar 5 nd (e_fn F__law_pool hr (a1 (e_op zaT (e_v 3) e_i))))
    (zab (zhT 6 nd zhi)
    (zab (zhT 7 nd zhi)
    (zab (zar 2 nd (e_op zaM (e_v 2) e_i))
    (zab (zdI (zcM B.range (a1 e_i)) (g_n 8 nd)
     (zab (zar 9 nd (e_op zaM e_i (e_op zaC (e_fn F__law_mixed hr (ac (e_v 3) (a1 (e_op zaM e_i (e_v 8))))) e_i)))
     (zab (zar 10 nd (e_op zaC (e_fn F__law_mixed hr (ac (e_v 3) (a1 (e_op zaM e_i (e_v 8))))) e_i))
     (zab (zar 11 nd (zbC a0))
     (zab (zdI (zaz (znu (e_v 1) (e_v 2) (e_op zaM (e_v 2) (e_v 10)))) (g_n 12 nd)
      (zac (ziy (e_v 11) (e_ct zcE B.tuple PyProof.Rows.boot_tuple (a1c (zaP (Nc:=["_law_j","_law_pool_here","_law_cell"]) (js:=[none,some 5,some 12]) (g:=(zas 0)) (tt:=tYes) (te:=(tOp (rIxL K) (tVar 1) (tOp (rI (fun _ j=>0<j) fun i j=>.int (i % j)) (zbp zal [] E0 (zaf (tVar 2) (zaf (tVar 0) tNil))) (tC (.int 3)))))
   (zat rfl rfl rfl rfl (fun x c h=>by simp at h;rcases h with ⟨rfl,rfl⟩ | ⟨rfl,rfl⟩<;>rfl) rfl rfl rfl) (zcM B.range (a1 (e_v 9)))
   (fun pins C s3 H3 fp=>⟨(g_n 0 nd3),.inl ⟨rfl,rfl⟩,(e_ix zaw (e_v 1) (e_op zaC (e_fn F__law_mixed hr (ac (e_v 2) (a1 (e_v 0)))) e_i))⟩)))))))
     (zab (ziV hr (e_v 7) (e_ix zaw (e_v 4) (e_v 8)) (e_fn F__law_lines hr (a1 (e_v 11))))
     (zab (ziV hr (e_v 6) (e_ix zaw (e_v 4) (e_v 8)) (e_v 9))
     (zac (zar 2 nd (e_op zaM (e_v 2) (e_v 10)))))))))))
    (zab (zgD 13 nd (Nc:=["_law_name","_law_size"]) (js:=[none,none]) (g:=(gTup K 2 (zkY (zas 0) (zkY (zas 1) gNil)))) (tt:=tYes) (te:=(tTup (zaf (tVar 0) (zaf (tVar 1) tNil))))
   (zat rfl rfl rfl rfl (fun x c h=>by cases h) rfl rfl rfl) (zkj (e_v 6))
   (fun pins C s3 H3 fp=>⟨(zjC (zbs (g_n 0 nd2) (zbs (g_n 1 nd2) zge))),.inl ⟨rfl,rfl⟩,(zaJ (ac (e_v 0) (a1 (e_v 1))))⟩))
    (zab (zmv (e_fn F__law_question hr (ac (e_op zaT (e_v 3) e_i) (ac e_i (ac e_i (ac (e_v 13) (a1 (e_v 5))))))) (zjC (zbs (g_n 14 nd) (zbs (g_n 9 nd) zge))))
    (zac (s_if (zio (zgz (e_fn F__law_right hr (ac (e_v 14) (ac (e_v 9) (ac (e_v 6) (a1 (e_v 7)))))))) (zac (zaj e_b)) zaq))))))))))))
   (zac (zaj e_b))))),?_⟩
  refine ⟨_,rfl,_,rfl,a,_,rfl,hS,fun p1 hp1=>?_⟩
  have u1:upd H p1 (.lst (cutV (ns.map V.int) none (some (63:Int)))) p1=some (.lst ((ns.take 63).map V.int)):=by rw [zaa,show (63:Int)=((63:Nat) : Int) from rfl,zkv]
  have s1:Same H (upd H p1 (.lst (cutV (ns.map V.int) none (some (63:Int))))):=(Same.refl H).upd hp1
  generalize upd H p1 (.lst (cutV (ns.map V.int) none (some (63:Int))))=H1 at s1 u1 ⊢
  refine ⟨by show 1<=sizeLine;decide,fun p2 hp2=>?_⟩
  obtain ⟨H2,e,s2,u2⟩:=fresh (.lst [.int 0]) hp2;rw [e];clear e
  refine ⟨p1,p2,_,_,rfl,rfl,s2 _ _ u1,u2,by rw [List.length_map,List.length_take];exact Nat.le_of_lt (zah (by simp;lia)),fun pc hpc=>?_⟩
  have ec:(ns.take 63).map V.int++[V.int 0]=(ns.take 63++[0]).map V.int:=by rw [List.map_append];rfl
  rw [ec]
  have lc:(ns.take 63++[0]).length<=64:=by rw [List.length_append,List.length_take,List.length_singleton];lia
  generalize ns.take 63++[0]=cells at lc ⊢
  have u3:upd H2 pc (.lst (cells.map V.int)) pc=some (.lst (cells.map V.int)):=zaa
  generalize upd H2 pc (.lst (cells.map V.int))=H3 at u3 ⊢
  clear s1 s2 u1 u2 hp1 hp2 hpc ec
  refine ⟨fun q σ H'=>∃ (m:Nat) (o3 o4 o5 o6 o7 o8 o9 o10 o11 o12 o13 o14:Option V),σ=[some (.ref a),some (.ref pc),some (.int (m:Int)),o3,o4,o5,o6,o7,o8,o9,o10,o11,o12,o13,o14]/\H' pc=some (.lst (cells.map V.int))/\q=cells.length-m,
   ⟨_,0,none,none,none,none,none,none,none,none,none,none,none,none,rfl,u3,rfl⟩,?_⟩
  rintro q σ H4 ⟨m,o3,o4,o5,o6,o7,o8,o9,o10,o11,o12,o13,o14,rfl,hpc,rfl⟩
  refine ⟨_,rfl,_,rfl,pc,_,rfl,.inl (SqL.of hpc),_,_,rfl,rfl,_,rfl,?_⟩
  rw [List.length_map]
  refine ite2 (fun hlt=>?_) (fun _=>k H4)
  have hm:m<cells.length:=by have:=of_decide_eq_true hlt;lia
  refine ⟨fun σ' H'=>∃ (m':Nat) (o3 o4 o5 o6 o7 o8 o9 o10 o11 o12 o13 o14:Option V),σ'=[some (.ref a),some (.ref pc),some (.int (m':Int)),o3,o4,o5,o6,o7,o8,o9,o10,o11,o12,o13,o14]/\H' pc=some (.lst (cells.map V.int))/\m<m',?_,?_⟩
  ·rintro σ' H' ⟨m',o3,o4,o5,o6,o7,o8,o9,o10,o11,o12,o13,o14,e,st,lt⟩
   exact ⟨cells.length-m',by lia,m',o3,o4,o5,o6,o7,o8,o9,o10,o11,o12,o13,o14,e,st,rfl⟩
  obtain ⟨hd,ehd⟩ : ∃ x,cells[m]?=some x:=⟨cells[m],List.getElem?_eq_getElem hm⟩
  refine ⟨_,rfl,_,rfl,ixL hpc (show atI (cells.map V.int) (m:Int)=some (.int hd) from za1 (by rw [List.getElem?_map,ehd];rfl)) ?_⟩
  refine ⟨_,rfl,hd,2,rfl,by decide,fun pn H5 ys s5 _ h5n ly nds _=>?_⟩
  refine ⟨_,rfl,_,_,rfl,rfl,⟨by decide,by decide⟩,_,rfl,fun pl H6 x y z s6 _ h6=>?_⟩
  refine fun dw hdw=>?_
  obtain ⟨H7,e,s7,u7⟩:=fresh (.dK []) hdw;rw [e];clear e
  refine fun dt hdt=>?_
  obtain ⟨H8,e,s8,u8⟩:=fresh (.dK []) hdt;rw [e];clear e
  have u7':=s8 _ _ u7
  have nwt:dw≠dt:=fun e=>by rw [<- e,u7] at hdt;cases hdt
  have hc8:=s8 _ _ (s7 _ _ (s6 _ _ (s5 _ _ hpc)))
  have hn8:=s8 _ _ (s7 _ _ (s6 _ _ h5n))
  have hl8:=s8 _ _ (s7 _ _ h6)
  clear s5 s6 s7 s8 h5n h6 u7 hdw hdt hpc hlt
  refine ⟨_,rfl,_,_,rfl,rfl,?_⟩
  refine ⟨_,rfl,by decide,by decide,zeb (n:=2) (fun i σ H'=>∃ (m':Nat) (kw kt:List (Key×V)) (W:Str->Nat) (T:Str->List (List Int)) (o8 o9 o10 o11 o12:Option V),σ=[some (.ref a),some (.ref pc),some (.int (m':Int)),some (.int hd),some (.ref pn),some (.ref pl),some (.ref dw),some (.ref dt),o8,o9,o10,o11,o12,o13,o14]/\(∀ c o,c≠dw->c≠dt->H8 c=some o->H' c=some o)/\H' dw=some (.dK kw)/\H' dt=some (.dK kt)/\Paired (Kw W) kw (ys.take i)/\Paired (Kt H' T) kt (ys.take i)/\Tbs W T (ys.take i)/\m<m')
   ⟨m+1,[],[],(fun _=>1),(fun _=>[]),_,_,_,_,_,rfl,(fun _ _ _ _ h=>h),u7',u8,.nil,.nil,⟨(fun z h=>nomatch h),(fun z h=>nomatch h),(fun z h=>nomatch h),(fun z h=>nomatch h)⟩,by lia⟩ ?_ ?_⟩
  ·rintro i σ H9 hi ⟨m',kw,kt,W,T,o8,o9,o10,o11,o12,rfl,kp,h9w,h9t,pw,pk,tb,lm⟩
   obtain ⟨y0,ey⟩ : ∃ y0,ys[i]?=some y0:=⟨ys[i],List.getElem?_eq_getElem (by lia)⟩
   have noL:∀ {c:Addr} {xs:List V},H8 c=some (.lst xs)->c≠dw/\c≠dt:=fun {c xs} h=>⟨(fun e=>by rw [e,u7'] at h;cases h),(fun e=>by rw [e,u8] at h;cases h)⟩
   have hc9:=kp _ _ (noL hc8).1 (noL hc8).2 hc8
   have hn9:=kp _ _ (noL hn8).1 (noL hn8).2 hn8
   have hl9:=kp _ _ (noL hl8).1 (noL hl8).2 hl8
   refine ⟨_,rfl,_,rfl,_,_,rfl,rfl,hd,_,rfl,by show (0:Int)<=10+(0+(i:Int));lia,by show (10+(0+(i:Int)) : Int)<=1000;lia,fun r1 _ _=>⟨_,_,rfl,rfl,pz,_,_,rfl,rfl,?_⟩⟩
   obtain ⟨L0,eL,hL⟩:=modN r1 (z:=3) (by decide)
   refine ⟨_,rfl,_,rfl,_,_,rfl,rfl,hd,_,rfl,by show (0:Int)<=12+(0+(i:Int));lia,by show (12+(0+(i:Int)) : Int)<=1000;lia,fun r2 _ _=>⟨_,_,rfl,rfl,pz,?_⟩⟩
   obtain ⟨c0,ec,hc⟩:=modN r2 (z:=6) (by decide)
   have eL':(1:Int)+r1 % 3=((1+L0:Nat) : Int):=by have:r1 % 3=(L0:Int):=eL;lia
   have ec':r2 % 6=(c0:Int):=ec
   show tSeq _ _ _ [some (.ref a),some (.ref pc),some (.int (m':Int)),some (.int hd),some (.ref pn),some (.ref pl),some (.ref dw),some (.ref dt),some (.int (0+(i:Int))),some (.int (1+r1 % 3)),some (.int (r2 % 6)),o11,o12,o13,o14] H9
   rw [eL',ec']
   have iy:atI (ys.map V.str) (0+(i:Int))=some (.str y0):=ix0 (by rw [List.getElem?_map,ey];rfl)
   refine ⟨Nat.zero_le _,fun pr hpr=>?_⟩
   obtain ⟨H10,e,s10,u10⟩:=fresh (.lst []) hpr;rw [e];clear e
   refine ⟨_,rfl,_,rfl,_,rfl,_,rfl,_,rfl,_,_,rfl,rfl,_,rfl,pc,_,rfl,SqL.of (s10 _ _ hc9),fun q hq=>?_⟩
   have lcu:=zlX (cells.map V.int) m' c0
   have ai:∀ {j:Nat} {v:V},(cutV (cells.map V.int) (some (m':Int)) (some ((m':Int)+(c0:Int))))[j]?=some v->∃ c,v=V.int c:=fun h=>zfW h
   show ∃ b,_=V.ref b/\_
   generalize cutV (cells.map V.int) (some (m':Int)) (some ((m':Int)+(c0:Int)))=cut at lcu ai ⊢
   have s11:Same H10 (upd H10 q (.lst cut)):=(Same.refl H10).upd hq
   have u11:upd H10 q (.lst cut) q=some (.lst cut):=zaa
   have nqr:q≠pr:=fun e=>by rw [e,u10] at hq;cases hq
   have u10':=s11 _ _ u10
   generalize upd H10 q (.lst cut)=H11 at s11 u11 u10' ⊢
   have s911:Same H9 H11:=s10.trans s11
   refine ⟨q,rfl,⟨cut,SqL.of u11⟩,zbl (K:=K) (a:=q) (xs:=cut) (fun j σ H'=>∃ (o12:Option V) (us:List V) (rs:List (List Int)),σ=[some (.ref a),some (.ref pc),some (.int (m':Int)),some (.int hd),some (.ref pn),some (.ref pl),some (.ref dw),some (.ref dt),some (.int (0+(i:Int))),some (.int ((1+L0:Nat) : Int)),some (.int (c0:Int)),some (.ref pr),o12,o13,o14]/\Same H9 H'/\H' q=some (.lst cut)/\H' pr=some (.lst us)/\Paired (RowAt H') us rs/\rs.length=j/\∀ r∈rs,r.length=1+L0)
    ⟨_,[],[],rfl,s911,u11,u10',.nil,rfl,(fun r h=>nomatch h)⟩ (fun j σ H' _ ⟨_,_,_,_,_,e,_⟩=>SqL.of e) ?_ ?_⟩
   ·rintro j v σ H12 hv ⟨o12,us,rs,rfl,s12,h12q,h12,pu,lr,wr⟩
    obtain ⟨cl,rfl⟩:=ai hv
    have hj:=gE hv
    have hl12:=s12 _ _ hl9
    refine ⟨_,rfl,.inl ⟨rfl,_,SqL.of h12⟩,_,rfl,_,rfl,by lia,by lia,fun D hD=>?_⟩
    have eN:((1+L0:Nat) : Int).toNat=1+L0:=by lia
    rw [eN]
    refine zbD (n:=1+L0) (fun t σ H'=>∃ (o0:Option V) (r:List Int),σ=[o0,some (.ref pl),some (.int cl)]/\Same H12 H'/\H' D=some (.lst (r.map V.int))/\r.length=t) ⟨none,[],rfl,(Same.refl H12).upd hD,zaa,rfl⟩ ?_ ?_
    ·rintro t σ H13 ht ⟨o0,r,rfl,s13,h13,lr'⟩
     refine ⟨_,rfl,_,rfl,_,rfl,cl,_,rfl,by lia,by lia,fun n1 n10 n11=>⟨_,_,rfl,rfl,pz,?_⟩⟩
     have q1:=Int.emod_nonneg n1 (show (3:Int)≠0 by decide)
     have q2:=Int.emod_lt_of_pos n1 (show (0:Int)<3 by decide)
     obtain ⟨d,_,ed⟩:=zhE (ns:=[x,y,z]) q1 (by simpa using q2)
     exact (ixL (s13 _ _ hl12) ed ⟨_,h13,zah (by rw [List.length_map];lia),_,r++[d],rfl,s13.upd hD,by rw [zaa,List.map_append];rfl,by rw [List.length_append,lr'];rfl⟩)
    ·rintro σ H13 ⟨o0,r,rfl,s13,h13,lr'⟩
     refine ⟨D,_,rfl,.inl ⟨SqL.of h13,fun t ht=>?_⟩⟩
     obtain ⟨H14,e,s14,u14⟩:=fresh (.tup (r.map V.int)) ht;rw [e];clear e
     have s124:=s13.trans s14
     have h14:=s124 _ _ h12
     have nt:=zbW h14
     have fpr:H9 pr=none:=hpr
     have lu:us.length=j:=by rw [Paired.length pu,lr]
     refine ⟨pr,us,_,rfl,rfl,h14,zah (by lia),_,us++[.ref t],rs++[r],rfl,(s12.trans s124).upd fpr,by rw [zam nqr];exact s124 _ _ h12q,zaa,?_,by rw [List.length_append,lr];rfl,fun r' hr'=>?_⟩
     ·exact zak (R:=RowAt (upd H14 pr (.lst (us++[.ref t])))) (zbf nt ⟨t,rfl,u14⟩) (Paired.mapP pu fun _ _ z=>zbf nt (RowAt.same s124 z))
     ·rcases List.mem_append.mp hr' with z | z
      ·exact wr r' z
      ·rw [List.mem_singleton.mp z];exact lr'
   ·rintro σ H12 ⟨o12,us,rs,rfl,s12,h12q,h12,pu,lr,wr⟩
    have l5:rs.length<=5:=by lia
    refine ⟨_,rfl,pr,us,rs,rfl,h12,pu,.inl fun r hr' e=>?_,by lia,fun pz' H13 zs ls s13 _ h13 pzz LN=>?_⟩
    ·have:=wr r hr'
     rw [e] at this
     simp at this
     lia
    have s913:=s12.trans s13
    have hn13:=s913 _ _ hn9
    have h13t:=s913 _ _ h9t
    have lk:kt.length=i:=by rw [Paired.length pk,List.length_take];lia
    have lkw:kw.length=i:=by rw [Paired.length pw,List.length_take];lia
    have yn:y0∉ys.take i:=fun e=>by
     obtain ⟨j,hj⟩:=List.getElem?_of_mem e
     have hj1:=gE hj
     rw [List.length_take] at hj1
     rw [List.getElem?_take_of_lt (by lia)] at hj
     have:=(List.getElem?_inj (by lia) nds).mp (hj.trans ey.symm)
     lia
    refine ⟨_,rfl,_,rfl,_,rfl,ixL hn13 iy ⟨dt,_,rfl,DPut.k (k:=Sum.inr y0) h13t (by rw [lk];exact zah (by lia)),?_⟩⟩
    rw [zdR _ (ziP pk yn)]
    have o13':Off H13 (upd H13 dt (.dK (kt++[(Sum.inr y0,.ref pz')]))):=Off.wr (fun xs e=>by rw [h13t] at e;cases e) (fun xs e=>by rw [h13t] at e;cases e)
    have k14:∀ c o,c≠dt->H13 c=some o->upd H13 dt (.dK (kt++[(Sum.inr y0,.ref pz')])) c=some o:=fun c o n h=>by rw [zam n];exact h
    have u14:upd H13 dt (.dK (kt++[(Sum.inr y0,.ref pz')])) dt=some (.dK (kt++[(Sum.inr y0,.ref pz')])):=zaa
    generalize upd H13 dt (.dK (kt++[(Sum.inr y0,.ref pz')]))=H14 at o13' k14 u14 ⊢
    have h14w:=k14 _ _ nwt (s913 _ _ h9w)
    have hn14:=o13'.l _ _ hn13
    refine ⟨_,rfl,_,rfl,_,rfl,_,rfl,ixL hn14 iy ⟨dw,_,rfl,DPut.k (k:=Sum.inr y0) h14w (by rw [lkw];exact zah (by lia)),?_⟩⟩
    rw [zdR _ (kw_none pw yn)]
    have o14':Off H14 (upd H14 dw (.dK (kw++[(Sum.inr y0,.int ((1+L0:Nat) : Int))]))):=Off.wr (fun xs e=>by rw [h14w] at e;cases e) (fun xs e=>by rw [h14w] at e;cases e)
    have k15:∀ c o,c≠dw->H14 c=some o->upd H14 dw (.dK (kw++[(Sum.inr y0,.int ((1+L0:Nat) : Int))])) c=some o:=fun c o n h=>by rw [zam n];exact h
    have u15:upd H14 dw (.dK (kw++[(Sum.inr y0,.int ((1+L0:Nat) : Int))])) dw=some (.dK (kw++[(Sum.inr y0,.int ((1+L0:Nat) : Int))])):=zaa
    generalize upd H14 dw (.dK (kw++[(Sum.inr y0,.int ((1+L0:Nat) : Int))]))=H15 at o14' k15 u15 ⊢
    refine ⟨_,rfl,_,rfl,_,_,rfl,rfl,?_⟩
    have offA:Off H9 H15:=(Off.of s913).trans (o13'.trans o14')
    have srt:=LN.srt
    have lls:=zgh LN
    have wls:∀ r∈ls,r.length=1+L0:=fun r hr'=>wr r ((LN.mem r).mp hr')
    have yy:∀ x∈ys.take i,x≠y0:=fun x hx e=>yn (e ▸ hx)
    refine ⟨m'+c0,kw++[(Sum.inr y0,.int ((1+L0:Nat) : Int))],kt++[(Sum.inr y0,.ref pz')],putW W y0 (1+L0),putT T y0 ls,_,_,_,_,_,by show [_,_,some (V.int ((m':Int)+(c0:Int))),_,_,_,_,_,_,_,_,_,_,_,_]=_;rw [show ((m':Int)+(c0:Int))=((m'+c0:Nat) : Int) by lia],fun c o n1 n2 h=>k15 c o n1 (k14 c o n2 (s913 _ _ (kp c o n1 n2 h))),u15,k15 _ _ nwt.symm u14,?_,?_,?_,by lia⟩
    ·rw [take_snoc ey]
     exact zak (R:=Kw _) (by show _=_;rw [zd1]) (zcI pw fun a b hb h=>by show _=_;rw [zhe (yy b hb)];exact h)
    ·rw [take_snoc ey]
     refine zak (R:=Kt _ _) ⟨rfl,by rw [zcS];exact (o13'.trans o14').rows ⟨pz',zs,rfl,h13,pzz⟩⟩ (zcI pk fun a b hb h=>⟨h.1,by rw [zff (yy b hb)];exact offA.rows h.2⟩)
    ·rw [take_snoc ey]
     exact tb.put yn (by lia) wls ⟨by lia,by lia⟩ srt
  ·rintro σ H9 ⟨m',kw,kt,W,T,o8,o9,o10,o11,o12,rfl,kp,h9w,h9t,pw,pk,tb,lm⟩
   have ey2:ys.take 2=ys:=List.take_of_length_le (by lia)
   rw [ey2] at pw pk tb
   have noL:∀ {c:Addr} {xs:List V},H8 c=some (.lst xs)->c≠dw/\c≠dt:=fun {c xs} h=>⟨(fun e=>by rw [e,u7'] at h;cases h),(fun e=>by rw [e,u8] at h;cases h)⟩
   have hc9:=kp _ _ (noL hc8).1 (noL hc8).2 hc8
   have hl9:=kp _ _ (noL hl8).1 (noL hl8).2 hl8
   have lkw:kw.length=ys.length:=Paired.length pw
   refine ⟨_,rfl,dw,kw,rfl,h9w,fun ob D hD=>?_⟩
   have k10:∀ c o,c≠dw->H9 c=some o->upd H9 dw (.frz ob (.dK kw)) c=some o:=fun c o n h=>by rw [zam n];exact h
   have u10:upd H9 dw (.frz ob (.dK kw)) dw=some (.frz ob (.dK kw)):=zaa
   have o10':Off H9 (upd H9 dw (.frz ob (.dK kw))):=Off.wr (fun xs e=>by rw [h9w] at e;cases e) (fun xs e=>by rw [h9w] at e;cases e)
   generalize upd H9 dw (.frz ob (.dK kw))=H10 at k10 u10 o10' hD ⊢
   refine ziF (Pv:=fun i σ H'=>∃ (o0 o1:Option V) (us:List V),σ=[o0,o1]/\Same H10 H'/\H' D=some (.lst us)/\Paired (NmAt W H') us (ys.take i)) ⟨none,none,[],rfl,(Same.refl H10).upd hD,zaa,.nil⟩ (fun i σ H' _ ⟨_,_,_,_,sm',_⟩=>sm' _ _ u10) ?_ ?_
   ·rintro i p T' σ H11 hp ⟨o0,o1,us,rfl,s11,h11,pu⟩ hT
    obtain ⟨zn,hz,e⟩:=zan pw hp
    have e:p=(Sum.inr zn,.int (W zn:Nat)):=e
    subst e
    have hi:=gE hz
    have s12:Same H11 (upd H11 T' (.tup [.str zn,.int (W zn:Nat)])):=(Same.refl H11).upd hT
    have u12:upd H11 T' (.tup [.str zn,.int (W zn:Nat)]) T'=some (.tup [.str zn,.int (W zn:Nat)]):=zaa
    show gTup K 2 _ _ _ (upd H11 T' (.tup [.str zn,.int (W zn:Nat)])) _
    generalize upd H11 T' (.tup [.str zn,.int (W zn:Nat)])=H12 at s12 u12 ⊢
    refine ⟨T',_,rfl,SqT.of u12,rfl,_,_,rfl,_,_,rfl,rfl,?_⟩
    refine ⟨_,rfl,_,rfl,by show 2<=sizeLine;exact sm,fun u hu=>?_⟩
    obtain ⟨H13,e,s13,u13⟩:=fresh (.tup [.str zn,.int (W zn:Nat)]) hu;rw [e];clear e
    have s113:=s12.trans s13
    have h13:=s113 _ _ h11
    have nt:=zbW h13
    have lu:us.length=i:=by rw [Paired.length pu,List.length_take];lia
    refine ⟨us,h13,zah (by lia),_,_,us++[.ref u],rfl,(s11.trans s113).upd hD,zaa,?_⟩
    rw [take_snoc hz]
    exact zak (R:=NmAt W _) ⟨u,rfl,zc6 nt _ _ u13⟩ (Paired.mapP pu fun _ _ ⟨t,a1,a2⟩=>⟨t,a1,zc6 nt _ _ (s113 _ _ a2)⟩)
   ·rintro σ H11 ⟨o0,o1,us,rfl,s11,h11,pu⟩
    rw [lkw,List.take_length] at pu
    have ne:ys≠[]:=fun e=>by rw [e] at ly;cases ly
    have hl11:=s11 _ _ (o10'.l _ _ hl9)
    refine ⟨_,rfl,_,_,rfl,rfl,⟨by decide,by decide⟩,_,rfl,_,rfl,_,0,3,D,pl,us,ys,W,x,y,z,rfl,by decide,by decide,by decide,h11,pu,ne,by lia,tb.pos,hl11,fun r H12 v q s12 h12 hq ok dq mq w1 w6=>?_⟩
    refine ⟨r,_,rfl,SqT.of h12,rfl,_,_,rfl,_,_,rfl,rfl,?_⟩
    have s102:=s11.trans s12
    have h12t:H12 dt=some (.dK kt):=s102 _ _ (k10 _ _ nwt.symm h9t)
    have pk12:Paired (Kt H12 T) kt ys:=Paired.mapP pk fun _ _ h=>⟨h.1,(Off.of s102).rows (o10'.rows h.2)⟩
    refine ⟨_,rfl,_,rfl,_,rfl,_,rfl,v,q,dw,dt,kw,kt,W,T,ys,rfl,hq,ok,tb,by lia,by lia,.inr ⟨ob,s102 _ _ u10⟩,zm3 pw nds,h12t,nwt,pk12,nds,by lia,fun H13 k13=>?_⟩
    refine ⟨_,rfl,iteF ?_⟩
    exact ⟨m',_,_,_,_,_,_,_,_,_,_,_,_,rfl,k13 _ _ (noL hc8).2 (s102 _ _ (o10'.l _ _ hc9)),lm⟩
end
end Prf
def PySem.W.Fast.tw13107961868897593104:Unit:=()
def PySem.W.Fast.tw6949925744965668880:Unit:=()
def PySem.W.Fast.tw4940505566949379034:Unit:=()
def PySem.W.Fast.tw4910588622558309165:Unit:=()
def PySem.W.Fast.tw18093433773988978931:Unit:=()
def PySem.W.Fast.tw15390104822391794195:Unit:=()
def PySem.W.Fast.tw2364081826828454265:Unit:=()
def PySem.W.Fast.tw3864569712037640932:Unit:=()
def PySem.W.Fast.tw14041341504402943082:Unit:=()
def PySem.W.Fast.tw13301949884285496412:Unit:=()
def PySem.W.Fast.tw8894273918751786230:Unit:=()
def PySem.W.Fast.tw6198422898023980625:Unit:=()
def PySem.W.Fast.tw2654490352426666533:Unit:=()
def PySem.W.Fast.tw2813891691081866675:Unit:=()
def PySem.W.Fast.tw17244273777703149984:Unit:=()
def PySem.W.Fast.tw8479147225191443544:Unit:=()
def PySem.W.Fast.tw17661530048674211018:Unit:=()
def PySem.W.Fast.tw7314814894360554110:Unit:=()
def PySem.W.Fast.tw12127395486265426585:Unit:=()
def PySem.W.Fast.tw6979499575533794272:Unit:=()
def PySem.W.Fast.tw5210818509983202887:Unit:=()
def PySem.W.Fast.tw8374765237145543419:Unit:=()
def PySem.W.Fast.tw9090874441665797125:Unit:=()
def PySem.W.Fast.tw4124833339266847466:Unit:=()
def PySem.W.Fast.tw9370111153795944030:Unit:=()
def PySem.W.Fast.tw9307526897754373691:Unit:=()
def PySem.W.Fast.tw2088991353773187082:Unit:=()
def PySem.W.Fast.tw18125972895843288633:Unit:=()
def PySem.W.Fast.tw14674244328532301292:Unit:=()
def PySem.W.Fast.tw3951145434474899084:Unit:=()
def PySem.W.Fast.tw15957836213677605061:Unit:=()
def PySem.W.Fast.tw15139154274317221252:Unit:=()
def PySem.W.Fast.tw8943733785774476349:Unit:=()
def PySem.W.Fast.tw12902983160737134268:Unit:=()
def PySem.W.Fast.tw14163004006604782274:Unit:=()
def PySem.W.Fast.tw8448244125345238642:Unit:=()
def PySem.W.Fast.tw15312436082182309698:Unit:=()
def PySem.W.Fast.tw6714400009448494812:Unit:=()
def PySem.W.Fast.tw14621653388200520568:Unit:=()
def PySem.W.Fast.tw17343406632397598405:Unit:=()
def PySem.W.Fast.tw8186422928935606872:Unit:=()
namespace Prf
open PySem L2 Wr
abbrev FA (K:PySem.W.Frag)(x:Str)(t:Stmt)(f:Addr) : Prop:=PySem.W.nsIn K mainGlobals x=some (some (.ref f))/\∃ fd,Fun K x x t f fd
theorem ar1 {α:Type}{us:List α}(h:us.length=1) : ∃ a,us=[a]:=List.length_eq_one_iff.mp h
theorem ar2 {α:Type}{us:List α}(h:us.length=2) : ∃ a0 a1,us=[a0,a1]:=by
 cases us with
 | nil=>cases h
 | cons x m=>obtain ⟨a0,rfl⟩:=ar1 (Nat.succ.inj h);exact ⟨x,a0,rfl⟩
theorem ar3 {α:Type}{us:List α}(h:us.length=3) : ∃ a0 a1 a2,us=[a0,a1,a2]:=by
 cases us with
 | nil=>cases h
 | cons x m=>obtain ⟨a0,a1,rfl⟩:=ar2 (Nat.succ.inj h);exact ⟨x,a0,a1,rfl⟩
theorem ar4 {α:Type}{us:List α}(h:us.length=4) : ∃ a0 a1 a2 a3,us=[a0,a1,a2,a3]:=by
 cases us with
 | nil=>cases h
 | cons x m=>obtain ⟨a0,a1,a2,rfl⟩:=ar3 (Nat.succ.inj h);exact ⟨x,a0,a1,a2,rfl⟩
theorem ar5 {α:Type}{us:List α}(h:us.length=5) : ∃ a0 a1 a2 a3 a4,us=[a0,a1,a2,a3,a4]:=by
 cases us with
 | nil=>cases h
 | cons x m=>obtain ⟨a0,a1,a2,a3,rfl⟩:=ar4 (Nat.succ.inj h);exact ⟨x,a0,a1,a2,a3,rfl⟩
theorem mkP {K:PySem.W.Frag}{h:Heap}{mg:Str->Option Value}{x:Str}{t:Stmt}{f:Addr}{ps:List Str}{sp:Sp}{k:Nat}(P:Program)(w:World)(base:Heap)(X:K.In h)(G:h.Ns mainGlobals mg)(a:FA K x t f)
  (hb:∀ (kV doc pm:Value) (an:Option Addr) (cdv ct:Value) (us:List Value),us.length=ps.length->bindArgs (PySem.W.fnOf x x (zeh t) (zcG t) (zad t) .none kV doc pm an cdv ct) ⟨us,[]⟩=pure (ps.zip us))
  (ok:∀ fd,Fun K x x t f fd->mg x=some (.ref f)->PySem.W.keepIn K (.ref f)=true->Binds K fd ps []->FnOk P w K mg base CX0 k f fd ps sp) : FnP P w K mg base k x ps sp:=by
 obtain ⟨a,fd,F⟩:=a
 have m:=PySem.W.mg_of X G a
 exact ⟨f,fd,ok fd F m F.kp (F.binds hb),m,F.kp,F.binds hb⟩
local macro_rules | `(tactic| walk_at "b")=>`(tactic| (intro _ _ _ _ _ _ us hl; first | (obtain ⟨_,e⟩:=ar1 hl; subst e; rfl) | (obtain ⟨_,_,e⟩:=ar2 hl; subst e; rfl) | (obtain ⟨_,_,_,e⟩:=ar3 hl; subst e; rfl) | (obtain ⟨_,_,_,_,e⟩:=ar4 hl; subst e; rfl) | (obtain ⟨_,_,_,_,_,e⟩:=ar5 hl; subst e; rfl)))
theorem all_mk {l:PySem.W.OpenLaw}{w:World}{K:PySem.W.Frag}{h:Heap}{mg:Str->Option Value}{fa f0 f1 f2 f3 f4 f5 f6 f7 f8 f9 f10 f11 f12 f13 f14 f15 f16 f17 f18 f19 f20 f21 f22 f23 f24 f25 f26 f27 f28 f29 f30 f31 f32 f33 f34:Addr}(X:K.In h)(G:h.Ns mainGlobals mg)(hfa:mg "law" = some (.ref fa))
  (h0:FA K "meets" (top 1) f0) (h1:FA K "condition_columns" (top 2) f1) (h2:FA K "parts_of" (top 9) f2) (h3:FA K "width" (top 10) f3) (h4:FA K "table_width" (top 11) f4) (h5:FA K "width_over" (top 12) f5) (h6:FA K "refuse_unlike" (top 13) f6) (h7:FA K "refuse_no_column" (top 14) f7) (h8:FA K "told_columns" (top 15) f8) (h9:FA K "plain" (top 16) f9) (h10:FA K "plain_over" (top 17) f10) (h11:FA K "cells_in" (top 18) f11) (h12:FA K "each_with_each" (top 19) f12) (h13:FA K "grouped" (top 20) f13) (h14:FA K "sums_of" (top 21) f14) (h15:FA K "sum_of" (top 22) f15) (h16:FA K "_law_whole" (top 24) f16) (h17:FA K "_law_mixed" (top 25) f17) (h18:FA K "_law_words" (top 26) f18) (h19:FA K "_law_pool" (top 27) f19) (h20:FA K "_law_plain_condition" (top 28) f20) (h21:FA K "_law_condition" (top 29) f21) (h22:FA K "_law_fit" (top 30) f22) (h23:FA K "_law_group" (top 31) f23) (h24:FA K "_law_columns" (top 32) f24) (h25:FA K "_law_question" (top 33) f25) (h26:FA K "_law_lines" (top 34) f26) (h27:FA K "_law_meets" (top 35) f27) (h28:FA K "_law_total" (top 36) f28) (h29:FA K "_law_grouped" (top 37) f29) (h30:FA K "_law_two" (top 38) f30) (h31:FA K "_law_plain" (top 39) f31) (h32:FA K "_law_is_lines" (top 40) f32) (h33:FA K "_law_right" (top 41) f33) (h34:FA K "law" (top 42) f34)
  (z0:PySem.W.nsIn K mainGlobals "sorted" = some none) (z1:PySem.W.nsIn K mainGlobals "max" = some none) (z2:PySem.W.nsIn K mainGlobals "min" = some none) (z3:PySem.W.nsIn K mainGlobals "any" = some none) (z4:PySem.W.nsIn K mainGlobals "all" = some none) (z5:PySem.W.nsIn K mainGlobals "sum" = some none) (z6:PySem.W.nsIn K mainGlobals "len" = some none) (z7:PySem.W.nsIn K mainGlobals "range" = some none) (z8:PySem.W.nsIn K mainGlobals "isinstance" = some none) (z9:PySem.W.nsIn K mainGlobals "list" = some none) (z10:PySem.W.nsIn K mainGlobals "tuple" = some none) (z11:PySem.W.nsIn K mainGlobals "int" = some none) (z12:PySem.W.nsIn K mainGlobals "bool" = some none) (z13:PySem.W.nsIn K mainGlobals "str" = some none) (z14:PySem.W.nsIn K mainGlobals "dict" = some none) (z15:PySem.W.nsIn K mainGlobals "set" = some none) (z16:PySem.W.nsIn K mainGlobals "zip" = some none) (z17:PySem.W.nsIn K mainGlobals "enumerate" = some none) (z18:PySem.W.nsIn K mainGlobals "reversed" = some none)
  : ∃ fd:FuncData,(∀ (s:Shared) (v:Value),BindsTo s fd ⟨[v],[]⟩ [("_law_script", v)])/\∀ base:Heap,K.In base->base.Ns mainGlobals mg->FnOk l.prog w K mg base CX0 16 fa fd ["_law_script"] (zkG K):=by
 obtain ⟨a,fd,F⟩:=h34
 cases hfa.symm.trans (PySem.W.mg_of X G a)
 refine ⟨fd,?_,fun base _ _=>?_⟩
 ·obtain ⟨oc,od,kV,doc,pm,an,cdv,ct,osl,rfl,lk,hcd⟩:=F.ex
  exact fun s v=>.of_eq rfl
 have y {x:Str}:=@PySem.W.mg_none_of K h mg x X G
 have B:Blts mg:=⟨y z0,y z1,y z2,y z3,y z4,y z5,y z6,y z7,y z8,y z9,y z10,y z11,y z12,y z13,y z14,y z15,y z16,y z17,y z18⟩
 have F_meets:=mkP l.prog w base X G h0 (by walk_at "b") fun _ F m k b=>zh1 F m k b 3
 have F_condition_columns:=mkP l.prog w base X G h1 (by walk_at "b") fun _ F m k b=>za8 F m k b 3
 have F_parts_of:=mkP l.prog w base X G h2 (by walk_at "b") fun _ F _ _ _=>zg2 F
 have F_table_width:=mkP l.prog w base X G h4 (by walk_at "b") fun _ F _ _ _=>zeF F
 have F_refuse_unlike:=mkP l.prog w base X G h6 (by walk_at "b") fun _ F _ _ _=>zdL F
 have F_refuse_no_column:=mkP l.prog w base X G h7 (by walk_at "b") fun _ F _ _ _=>zcB F
 have F_told_columns:=mkP l.prog w base X G h8 (by walk_at "b") fun _ F _ _ _=>zer F B F_condition_columns
 have F_width_over:=mkP l.prog w base X G h5 (by walk_at "b") fun _ F _ _ _=>zfy F B F_refuse_unlike F_refuse_no_column F_told_columns
 have F_width:=mkP l.prog w base X G h3 (by walk_at "b") fun _ F m k b=>zh2 F m k b F_table_width F_width_over F_parts_of 8
 have F_cells_in:=mkP l.prog w base X G h11 (by walk_at "b") fun _ F _ _ _=>zhk F B
 have F_each_with_each:=mkP l.prog w base X G h12 (by walk_at "b") fun _ F _ _ _=>zdy F
 have F_sum_of:=mkP l.prog w base X G h15 (by walk_at "b") fun _ F _ _ _=>zi9 F B
 have F_sums_of:=mkP l.prog w base X G h14 (by walk_at "b") fun _ F _ _ _=>zix F B F_sum_of
 have F_grouped:=mkP l.prog w base X G h13 (by walk_at "b") fun _ F _ _ _=>ziu F B F_cells_in F_sums_of
 have F_plain_over:=mkP l.prog w base X G h10 (by walk_at "b") fun _ F _ _ _=>zfj F B F_meets F_cells_in F_grouped F_each_with_each
 have F_plain:=mkP l.prog w base X G h9 (by walk_at "b") fun _ F m k b=>zig F m k b B F_plain_over F_parts_of 8
 have F__law_whole:=mkP l.prog w base X G h16 (by walk_at "b") fun _ F _ _ _=>zfl F B
 have F__law_mixed:=mkP l.prog w base X G h17 (by walk_at "b") fun _ F _ _ _=>zfk F B
 have F__law_words:=mkP l.prog w base X G h18 (by walk_at "b") fun _ F _ _ _=>zfC F B F__law_mixed
 have F__law_pool:=mkP l.prog w base X G h19 (by walk_at "b") fun _ F _ _ _=>zgG F F__law_mixed
 have F__law_plain_condition:=mkP l.prog w base X G h20 (by walk_at "b") fun _ F _ _ _=>zbI F
 have F__law_condition:=mkP l.prog w base X G h21 (by walk_at "b") fun _ F _ _ _=>zdw F F__law_mixed F__law_plain_condition
 have F__law_fit:=mkP l.prog w base X G h22 (by walk_at "b") fun _ F _ _ _=>zhb F B
 have F__law_group:=mkP l.prog w base X G h23 (by walk_at "b") fun _ F _ _ _=>zfH F B F__law_mixed
 have F__law_columns:=mkP l.prog w base X G h24 (by walk_at "b") fun _ F _ _ _=>zex F B F__law_mixed
 have F__law_question:=mkP l.prog w base X G h25 (by walk_at "b") fun _ F m k b=>zb0 F m k b B F__law_mixed F__law_condition F__law_fit F__law_group F__law_columns 4
 have F__law_lines:=mkP l.prog w base X G h26 (by walk_at "b") fun _ F _ _ _=>zfc F B
 have F__law_meets:=mkP l.prog w base X G h27 (by walk_at "b") fun _ F m k b=>zc5 F m k b 3
 have F__law_total:=mkP l.prog w base X G h28 (by walk_at "b") fun _ F _ _ _=>zfD F B
 have F__law_grouped:=mkP l.prog w base X G h29 (by walk_at "b") fun _ F _ _ _=>zd8 F B F__law_lines F__law_total
 have F__law_two:=mkP l.prog w base X G h30 (by walk_at "b") fun _ F _ _ _=>zhq F B
 have F__law_plain:=mkP l.prog w base X G h31 (by walk_at "b") fun _ F m k b=>zcO F m k b B F__law_lines F__law_two F__law_meets F__law_grouped 8
 have F__law_is_lines:=mkP l.prog w base X G h32 (by walk_at "b") fun _ F _ _ _=>zdK F B F__law_whole
 have F__law_right:=mkP l.prog w base X G h33 (by walk_at "b") fun _ F _ _ _=>zfg F B F_width F_plain F__law_whole F__law_is_lines F__law_plain
 exact zmV F B F__law_words F__law_pool F__law_mixed F__law_lines F__law_question F__law_right
theorem walk {l:PySem.W.OpenLaw}{q:Program}{loose:List Str}{XP:(Str->Option Value)->Heap->Prop}{YP:World->Heap->Prop}{d:DefRec}{K:Params->PySem.W.Frag}(hn:l.most=some 63)(hdf:d.params.defaults=[])
  (hY:∀ (w:World) (h:Heap),YP w h->(K w.params).In h) (F:∀ (w:World) (mg:Str->Option Value) (fa:Addr) (h:Heap),(K w.params).In h->h.Ns mainGlobals mg->mg d.name=some (.ref fa) ->
   ∃ fd:FuncData,(∀ (s:Shared) (u:Value),BindsTo s fd ⟨[u],[]⟩ [("_law_script", u)])/\∀ base:Heap,(K w.params).In base->base.Ns mainGlobals mg->FnOk l.prog w (K w.params) mg base CX0 16 fa fd ["_law_script"] (zkG (K w.params))) :
  PySem.W.WalkO q loose XP YP l.row.toRowW d [] (fun f vs=>PySem.call f vs) :=
 L2.walk_of (n:=63) (k:=16) (x := "_law_script") (CX:=fun _=>CX0) (sp:=fun w=>zkG (K w.params)) hn (by decide) hdf ⟨rfl,by decide,by decide⟩ hY F (fun _ _ a ns hl _ hS=>⟨a,ns,rfl,hS,hl,fun _=>rfl⟩) fun _ _ _ _ _ z=>z
def c0:Stmt:=top 0
def c1:Stmt:=top 1
def c2:Stmt:=top 2
def c3:Stmt:=top 3
def c4:Stmt:=top 4
def c5:Stmt:=top 5
def c6:Stmt:=top 6
def c7:Stmt:=top 7
def c8:Stmt:=top 8
def c9:Stmt:=top 9
def c10:Stmt:=top 10
def c11:Stmt:=top 11
def c12:Stmt:=top 12
def c13:Stmt:=top 13
def c14:Stmt:=top 14
def c15:Stmt:=top 15
def c16:Stmt:=top 16
def c17:Stmt:=top 17
def c18:Stmt:=top 18
def c19:Stmt:=top 19
def c20:Stmt:=top 20
def c21:Stmt:=top 21
def c22:Stmt:=top 22
def c23:Stmt:=top 23
def c24:Stmt:=top 24
def c25:Stmt:=top 25
def c26:Stmt:=top 26
def c27:Stmt:=top 27
def c28:Stmt:=top 28
def c29:Stmt:=top 29
def c30:Stmt:=top 30
def c31:Stmt:=top 31
def c32:Stmt:=top 32
def c33:Stmt:=top 33
def c34:Stmt:=top 34
def c35:Stmt:=top 35
def c36:Stmt:=top 36
def c37:Stmt:=top 37
def c38:Stmt:=top 38
def c39:Stmt:=top 39
def c40:Stmt:=top 40
def c41:Stmt:=top 41
def c42:Stmt:=top 42
def pq:Program:={ PySem.Challenge.pw_whenrows_k33_plain_answers with main:={ PySem.Challenge.pw_whenrows_k33_plain_answers.main with body:=[c0,c1,c2,c3,c4,c5,c6,c7,c8,c9,c10,c11,c12,c13,c14,c15,c16,c17,c18,c19,c20,c21,c22,c23,c24,c25,c26,c27,c28,c29,c30,c31,c32,c33,c34,c35,c36,c37,c38,c39,c40,c41,c42] } }
def rq:PySem.W.OpenLaw:={ PySem.Challenge.rw_whenrows_k33_plain_answers with prog:=pq }
end Prf
open PySem PySem.W PyProof.Rows
set_option maxRecDepth 100000 in
set_option maxHeartbeats 0 in
theorem Prf.holds_q:Prf.rq.Holds:=by
 w_on;o_law;k_head;(case hw=>w_witness2)
 k_fill
 refine Prf.walk (l:=Prf.rq) rfl rfl (fun w h Y=>PySem.W.kIn_of Y) ?F
 case F =>
  intro w mg fa h KX G hmg
  refine' Prf.all_mk KX G hmg ⟨?a0,_,L2.fun_mk ?l0 ?c0 ?k0⟩ ⟨?a1,_,L2.fun_mk ?l1 ?c1 ?k1⟩ ⟨?a2,_,L2.fun_mk ?l2 ?c2 ?k2⟩ ⟨?a3,_,L2.fun_mk ?l3 ?c3 ?k3⟩ ⟨?a4,_,L2.fun_mk ?l4 ?c4 ?k4⟩ ⟨?a5,_,L2.fun_mk ?l5 ?c5 ?k5⟩ ⟨?a6,_,L2.fun_mk ?l6 ?c6 ?k6⟩ ⟨?a7,_,L2.fun_mk ?l7 ?c7 ?k7⟩ ⟨?a8,_,L2.fun_mk ?l8 ?c8 ?k8⟩ ⟨?a9,_,L2.fun_mk ?l9 ?c9 ?k9⟩ ⟨?a10,_,L2.fun_mk ?l10 ?c10 ?k10⟩ ⟨?a11,_,L2.fun_mk ?l11 ?c11 ?k11⟩ ⟨?a12,_,L2.fun_mk ?l12 ?c12 ?k12⟩ ⟨?a13,_,L2.fun_mk ?l13 ?c13 ?k13⟩ ⟨?a14,_,L2.fun_mk ?l14 ?c14 ?k14⟩ ⟨?a15,_,L2.fun_mk ?l15 ?c15 ?k15⟩ ⟨?a16,_,L2.fun_mk ?l16 ?c16 ?k16⟩ ⟨?a17,_,L2.fun_mk ?l17 ?c17 ?k17⟩ ⟨?a18,_,L2.fun_mk ?l18 ?c18 ?k18⟩ ⟨?a19,_,L2.fun_mk ?l19 ?c19 ?k19⟩ ⟨?a20,_,L2.fun_mk ?l20 ?c20 ?k20⟩ ⟨?a21,_,L2.fun_mk ?l21 ?c21 ?k21⟩ ⟨?a22,_,L2.fun_mk ?l22 ?c22 ?k22⟩ ⟨?a23,_,L2.fun_mk ?l23 ?c23 ?k23⟩ ⟨?a24,_,L2.fun_mk ?l24 ?c24 ?k24⟩ ⟨?a25,_,L2.fun_mk ?l25 ?c25 ?k25⟩ ⟨?a26,_,L2.fun_mk ?l26 ?c26 ?k26⟩ ⟨?a27,_,L2.fun_mk ?l27 ?c27 ?k27⟩ ⟨?a28,_,L2.fun_mk ?l28 ?c28 ?k28⟩ ⟨?a29,_,L2.fun_mk ?l29 ?c29 ?k29⟩ ⟨?a30,_,L2.fun_mk ?l30 ?c30 ?k30⟩ ⟨?a31,_,L2.fun_mk ?l31 ?c31 ?k31⟩ ⟨?a32,_,L2.fun_mk ?l32 ?c32 ?k32⟩ ⟨?a33,_,L2.fun_mk ?l33 ?c33 ?k33⟩ ⟨?a34,_,L2.fun_mk ?l34 ?c34 ?k34⟩ ?z0 ?z1 ?z2 ?z3 ?z4 ?z5 ?z6 ?z7 ?z8 ?z9 ?z10 ?z11 ?z12 ?z13 ?z14 ?z15 ?z16 ?z17 ?z18
  (case a0|l0|c0|k0|a1|l1|c1|k1|a2|l2|c2|k2|a3|l3|c3|k3|a4|l4|c4|k4|a5|l5|c5|k5|a6|l6|c6|k6|a7|l7|c7|k7|a8|l8|c8|k8|a9|l9|c9|k9|a10|l10|c10|k10|a11|l11|c11|k11|a12|l12|c12|k12|a13|l13|c13|k13|a14|l14|c14|k14|a15|l15|c15|k15|a16|l16|c16|k16|a17|l17|c17|k17|a18|l18|c18|k18|a19|l19|c19|k19|a20|l20|c20|k20|a21|l21|c21|k21|a22|l22|c22|k22|a23|l23|c23|k23|a24|l24|c24|k24|a25|l25|c25|k25|a26|l26|c26|k26|a27|l27|c27|k27|a28|l28|c28|k28|a29|l29|c29|k29|a30|l30|c30|k30|a31|l31|c31|k31|a32|l32|c32|k32|a33|l33|c33|k33|a34|l34|c34|k34|z0|z1|z2|z3|z4|z5|z6|z7|z8|z9|z10|z11|z12|z13|z14|z15|z16|z17|z18=>k_is)
theorem Prf.same_q:Prf.rq=PySem.Challenge.rw_whenrows_k33_plain_answers:=by kernel_rfl
theorem PySem.Challenge.cw_whenrows_k33_plain_answers_holds : PySem.Challenge.rw_whenrows_k33_plain_answers.Holds :=
 Prf.same_q ▸ Prf.holds_q
